/- What keywardref10's Request answers. -/
import Derived.Test.YtgioojahadlmhaaRd2
import Derived.Test.YtgioojahadlmhaaLateG
import Derived.Test.YtgioojahadlmhaaWr4
import Derived.Test.YtgioojahadlmhaaWr5
namespace Go.Proofs.Ytgioojahadlmhaa
open Go.RowKit
set_option maxRecDepth 20000
attribute [local irreducible] wpList

/-- n bytes, of which k stand. -/
def flN (l : List (BitVec 8)) (n k : Nat) : List (BitVec 8) := l.take k ++ List.replicate (n - k) 0
theorem flN_len {l : List (BitVec 8)} {n k : Nat} (h : l.length = n) (hk : k ≤ n) : (flN l n k).length = n := by unfold flN; rw [List.length_append, List.length_take, List.length_replicate]; omega
theorem flN_zero (l : List (BitVec 8)) (n : Nat) : (flN l n 0).map b8 = z8 n := by unfold flN; rw [List.take_zero, List.nil_append, Nat.sub_zero]; rfl
theorem flN_all {l : List (BitVec 8)} {n : Nat} (h : l.length = n) : flN l n n = l := by unfold flN; rw [List.take_of_length_le (by omega)]; simp
theorem flN_set {l : List (BitVec 8)} {n k : Nat} (h : l.length = n) (hk : k < n) : ((flN l n k).map b8).set k (b8 (l.getD k 0)) = (flN l n (k + 1)).map b8 := by
  rw [set_map]
  congr 1
  unfold flN
  have e : List.replicate (n - k) (0 : BitVec 8) = 0 :: List.replicate (n - (k + 1)) 0 := by rw [show n - k = (n - (k + 1)) + 1 by omega, List.replicate_succ]
  rw [e, List.set_append_right _ _ (by rw [List.length_take]; omega), List.length_take, Nat.min_eq_left (by omega), Nat.sub_self, List.set_cons_zero, List.take_succ_eq_append_getElem (by omega), List.append_assoc]
  simp [show k < l.length by omega]
/-- So many bytes that are read, or noughts. -/
def gkX (n : Nat) (b : List (BitVec 8)) (i : Nat) (e : Int) : List (BitVec 8) := if tkE b.length i e n = 0 then (b.drop i).take n else List.replicate n 0
theorem tk_room {m i n : Nat} {e : Int} (_hi : i ≤ m) (h : tkE m i e n = 0) : i + n ≤ m := by
  unfold tkE at h
  by_cases h1 : e = 0 ∧ (m : Int) - (i : Int) < (n : Int)
  · rw [if_pos h1] at h; omega
  · rw [if_neg h1] at h; subst h
    have : ¬ ((m : Int) - (i : Int) < (n : Int)) := fun h2 => h1 ⟨rfl, h2⟩
    omega
theorem gkX_len {n : Nat} {b : List (BitVec 8)} {i : Nat} {e : Int} (hi : i ≤ b.length) : (gkX n b i e).length = n := by
  unfold gkX
  split
  · rename_i h
    have := tk_room hi h
    rw [List.length_take, List.length_drop]; omega
  · exact List.length_replicate
theorem row_at {ao : Option Addr} {c i n : Nat} {b : List (BitVec 8)} {V : World} (h : Sl (.slice ao b.length c) b V) (hi : i + n ≤ b.length) (hn : 0 < n) : ∃ g f c', cutO ao (i + n) c i = .slice (some ⟨g, f, none⟩) n c' ∧ V.rangeAt g f (((b.drop i).take n).map b8) := by
  have h1 := h.part (lo := i) (hi := i + n) (by omega) (by omega)
  have e : (b.take (i + n)).drop i = (b.drop i).take n := by rw [List.drop_take, Nat.add_sub_cancel_left]
  rw [e] at h1
  have hl : ((b.drop i).take n).length = n := by rw [List.length_take, List.length_drop]; omega
  obtain ⟨g, f, c', h2, _, h3⟩ := h1.adr (by omega)
  rw [hl] at h2
  exact ⟨g, f, c', h2, h3⟩
theorem results_rows {fn : Func} {p q : Tmp} {t t' : TypeId} {d d' : TypeDesc} (h : fn.results = #[.cell p t, .cell q t']) {tmps : Array Value} {w : World} {g g' : Nat} {l l' : List Value} (ht : tmps.getD p undef = .pointer (some ⟨g, 0, none⟩)) (ht' : tmps.getD q undef = .pointer (some ⟨g', 0, none⟩)) (hu : Try.prog.underlying t = some d) (hd : d.isRow = true) (hu' : Try.prog.underlying t' = some d') (hd' : d'.isRow = true) (hl : (Try.prog.info? t).map (·.size) = some l.length) (hl' : (Try.prog.info? t').map (·.size) = some l'.length) (hr : w.rangeAt g 0 l) (hr' : w.rangeAt g' 0 l') :
    (results fn tmps).run Try.prog w = .ok (.tuple #[.agg l.toArray, .agg l'.toArray]) w := by
  have e := run_loadVar_mid (P := Try.prog) w g 0 t l d hr hu hd hl
  have e' := run_loadVar_mid (P := Try.prog) w g' 0 t' l' d' hr' hu' hd' hl'
  rw [Array.getD_eq_getD_getElem?] at ht ht'
  simp only [results, h]
  simp [ht, ht', asAddr, e, e', Result.andThen]
theorem run_bldW0 {w : World} {ρ : Operand → Value} {o : Oper} {t : TypeId} {cells : Array Value} (ho : o.op = .build t #[]) (h : Try.prog.built t [] = some cells) : (execOp ρ o).run Try.prog w = .ok (.value (.agg cells)) w := run_bld ho (by simpa using h)
end Go.Proofs.Ytgioojahadlmhaa
namespace Go.Proofs.Ytgioojahadlmhaa
open Go.RowKit
set_option maxRecDepth 20000
attribute [local irreducible] wpList

/-- A number, and so many bytes, with the place and the error behind. -/
def nM (b : List (BitVec 8)) (most : Int) (s : Nat × Int) : (Nat × Int) × Int := (((gn b most s.1 s.2).1, (gn b most s.1 s.2).2.1), (gn b most s.1 s.2).2.2)
def kM (n : Nat) (b : List (BitVec 8)) (s : Nat × Int) : (Nat × Int) × List (BitVec 8) := ((tkI b.length s.1 s.2 n, tkE b.length s.1 s.2 n), gkX n b s.1 s.2)
theorem gnL_le {b : List (BitVec 8)} {most : Int} : ∀ {k i n t : Nat}, i ≤ b.length → (gnL b most k i n t).1 ≤ b.length
  | 0, _, _, _, h => h
  | k + 1, i, n, t, h => by
    unfold gnL
    split
    · exact h
    · split
      · split
        · show i + 1 ≤ _; omega
        · show i + 1 ≤ _; omega
      · exact gnL_le (by omega)
theorem nM_le {b : List (BitVec 8)} {most : Int} {s : Nat × Int} (h : s.1 ≤ b.length) : (nM b most s).1.1 ≤ b.length := by
  unfold nM gn
  by_cases he : s.2 = 0
  · rw [if_pos he]; exact gnL_le h
  · rw [if_neg he]; exact h
theorem kM_le {n : Nat} {b : List (BitVec 8)} {s : Nat × Int} (h : s.1 ≤ b.length) : (kM n b s).1.1 ≤ b.length := by
  unfold kM tkI
  by_cases he : tkE b.length s.1 s.2 n = 0
  · have := tk_room h he
    simp only [if_pos he]; exact this
  · simp only [if_neg he]; exact h
theorem kM_len {n : Nat} {b : List (BitVec 8)} {s : Nat × Int} (h : s.1 ≤ b.length) : (kM n b s).2.length = n := gkX_len h
theorem pkC_row {p : MPk} : pkC p = pkR (.int .i64 p.id) (p.key.map b8) := by unfold pkC pkR; rfl
theorem hdC_row {h : MHd} : hdC h = hdR (h.r.map b8) (.int .i64 h.prev) (.int .i64 h.n) := by unfold hdC hdR; rfl
def pkM (b : List (BitVec 8)) (s : Nat × Int) : (Nat × Int) × MPk :=
  let r1 := nM b 1099511627776 s
  let r2 := kM 32 b r1.1
  (r2.1, ⟨r1.2, r2.2⟩)
theorem pkM_le {b : List (BitVec 8)} {s : Nat × Int} (h : s.1 ≤ b.length) : (pkM b s).1.1 ≤ b.length := (kM_le (nM_le h))
def hdM (b : List (BitVec 8)) (s : Nat × Int) : (Nat × Int) × MHd :=
  let r1 := kM 32 b s
  let r2 := nM b 1099511627776 r1.1
  let r3 := nM b 1099511627776 r2.1
  (r3.1, ⟨r1.2, r2.2, r3.2⟩)
theorem hdM_le {b : List (BitVec 8)} {s : Nat × Int} (h : s.1 ≤ b.length) : (hdM b s).1.1 ≤ b.length := (nM_le (nM_le (kM_le h)))
end Go.Proofs.Ytgioojahadlmhaa
namespace Go.Proofs.Ytgioojahadlmhaa
open Go.RowKit
set_option maxRecDepth 20000
attribute [local irreducible] wpList

theorem gnL_num {b : List (BitVec 8)} {most : Int} (h0 : 0 ≤ most) : ∀ {k i n t : Nat}, 0 ≤ (gnL b most k i n t).2.2 ∧ (gnL b most k i n t).2.2 ≤ most
  | 0, _, _, _ => ⟨Int.le_refl _, h0⟩
  | k + 1, i, n, t => by
    unfold gnL
    split
    · exact ⟨Int.le_refl _, h0⟩
    · split
      · split
        · exact ⟨Int.le_refl _, h0⟩
        · rename_i h
          have : ¬ most < ((n + (b.getD i 0).toNat % 128 * t : Nat) : Int) := fun h2 => h (.inr h2)
          show 0 ≤ ((n + (b.getD i 0).toNat % 128 * t : Nat) : Int) ∧ ((n + (b.getD i 0).toNat % 128 * t : Nat) : Int) ≤ most
          omega
      · exact gnL_num h0
theorem nM_num {b : List (BitVec 8)} {most : Int} {s : Nat × Int} (h0 : 0 ≤ most) : 0 ≤ (nM b most s).2 ∧ (nM b most s).2 ≤ most := by
  unfold nM gn
  by_cases he : s.2 = 0
  · rw [if_pos he]; exact gnL_num h0
  · rw [if_neg he]; exact ⟨Int.le_refl _, h0⟩
/-- Things that are read one behind the other, till an error. -/
def rowsM {α : Type} (g : Nat × Int → (Nat × Int) × α) : Nat → Nat × Int → (Nat × Int) × List α
  | 0, s => (s, [])
  | k + 1, s => if s.2 = 0 then ((rowsM g k (g s).1).1, (g s).2 :: (rowsM g k (g s).1).2) else (s, [])
theorem rowsM_zero {α : Type} (g : Nat × Int → (Nat × Int) × α) (s : Nat × Int) : rowsM g 0 s = (s, []) := rfl
theorem rowsM_err {α : Type} (g : Nat × Int → (Nat × Int) × α) (k : Nat) {s : Nat × Int} (h : s.2 ≠ 0) : rowsM g k s = (s, []) := by
  cases k with
  | zero => rfl
  | succ k => unfold rowsM; rw [if_neg h]
theorem rowsM_step {α : Type} (g : Nat × Int → (Nat × Int) × α) (k : Nat) {s : Nat × Int} (h : s.2 = 0) : rowsM g (k + 1) s = ((rowsM g k (g s).1).1, (g s).2 :: (rowsM g k (g s).1).2) := by
  conv => lhs; unfold rowsM
  rw [if_pos h]
theorem rowsM_le {α : Type} {g : Nat × Int → (Nat × Int) × α} {m : Nat} (hg : ∀ s, s.1 ≤ m → (g s).1.1 ≤ m) : ∀ (k : Nat) {s : Nat × Int}, s.1 ≤ m → (rowsM g k s).1.1 ≤ m
  | 0, _, h => h
  | k + 1, s, h => by
    unfold rowsM
    by_cases he : s.2 = 0
    · rw [if_pos he]; exact rowsM_le hg k (hg s h)
    · rw [if_neg he]; exact h
/-- What a row that has grown reads. -/
theorem slR_own {α : Type} {z : Nat} {Rr : α → List Value → World → Prop} {B e n : Nat} {v : Value} {css : List (List Value)} {l : List α} {V : World} (h : V.ownsRow B e z v n css.flatten) (hn : n = l.length) (hc : css.length = l.length) (hz : ∀ x ∈ css, x.length = z) (hR : ∀ (i : Nat) (m : α) (cs : List Value), l[i]? = some m → css[i]? = some cs → Rr m cs V) : ∃ a c, v = .slice a l.length c ∧ SlR z Rr l a c V := by
  subst hn
  rcases h.2 with ⟨rfl, h2⟩ | ⟨g, cap, cur, rfl, h3, h4, h5, h6, h7, h8⟩
  · refine ⟨none, 0, by rw [h2], ⟨by omega, css, hc, hz, hR, fun hne => absurd (List.length_eq_zero_iff.1 h2) hne⟩⟩
  · refine ⟨some ⟨g, 0, none⟩, cap, rfl, ⟨h5, css, hc, hz, hR, fun _ => ⟨g, 0, rfl, (Array.getElem?_eq_some_iff.1 h4).1, fun j x hx => ?_⟩⟩⟩
    rw [Nat.zero_add]
    rw [← h8] at hx
    have hlt : j < l.length * z := by
      rcases Nat.lt_or_ge j (l.length * z) with h9 | h9
      · exact h9
      · rw [List.getElem?_eq_none (by rw [List.length_take]; omega)] at hx; cases hx
    rw [List.getElem?_take_of_lt hlt] at hx
    simp only [World.cell?, h4]
    simpa using hx
def pkAt (p : MPk) (cs : List Value) (_ : World) : Prop := cs = pkC p
theorem pkM_len {b : List (BitVec 8)} {s : Nat × Int} (h : s.1 ≤ b.length) : (pkM b s).2.key.length = 32 := kM_len (nM_le h)
theorem Gw.drop {w u : World} {p : Nat × List Value} {L : List (Nat × List Value)} {e : TypeId} {z n : Nat} {v : Value} {cs : List Value} {F H : World → Prop} (h : Gw w (p :: L) e z v n cs F H u) : Gw w L e z v n cs F H u := ⟨h.ev.drop, h.row, fun q hq => h.ap q (List.mem_cons_of_mem _ hq)⟩
theorem pkC_len' {p : MPk} (h : p.key.length = 32) : (pkC p).length = 33 := pkC_len h
theorem pkC_one {p : MPk} (_h : p.key.length = 32) : One (pkC p) := by rw [pkC_row]; exact pkR_one rfl (One.b8 _)
def psM (b : List (BitVec 8)) (s : Nat × Int) : (Nat × Int) × List MPk := rowsM (pkM b) (nM b 60000 s).2.toNat (nM b 60000 s).1
theorem psM_le {b : List (BitVec 8)} {s : Nat × Int} (h : s.1 ≤ b.length) : (psM b s).1.1 ≤ b.length := rowsM_le (fun _ h => pkM_le h) _ (nM_le h)
end Go.Proofs.Ytgioojahadlmhaa
namespace Go.Proofs.Ytgioojahadlmhaa
open Go.RowKit
set_option maxRecDepth 20000

/-- A message from a device. -/
structure MEv where
  fr : Int
  dev : Int
  first : Bool
  eph : List (BitVec 8)
  signed : Int
  one : Int
  head : MHd
  body : List (BitVec 8)
structure MEv.Ok (e : MEv) : Prop where
  eph : e.eph.length = 32
  head : e.head.r.length = 32
  body : e.body.length ≤ 100000
def evC (e : MEv) (v : Value) : List Value := .int .i64 e.fr :: .int .i64 e.dev :: .bool e.first :: (e.eph.map b8 ++ (.int .i64 e.signed :: .int .i64 e.one :: (hdC e.head ++ [v])))
def oneN (o : Int) : Int := if 0 ≤ o then min o 1099511627775 + 1 else 0
def evB (e : MEv) : List (BitVec 8) := viB e.fr ++ viB e.dev ++ trB e.first ++ e.eph ++ viB e.signed ++ viB (oneN e.one) ++ hdB e.head ++ (viB (e.body.length : Int) ++ e.body)
theorem evC_len {e : MEv} (h : e.Ok) (v : Value) : (evC e v).length = 72 := by
  unfold evC
  simp only [List.length_cons, List.length_append, List.length_map, h.eph, hdC_len h.head, List.length_nil]
theorem hdB_len {h : MHd} (e : h.r.length = 32) : (hdB h).length ≤ 44 := by
  have h1 := viB_len h.prev
  have h2 := viB_len h.n
  unfold hdB; rw [List.length_append, List.length_append]; omega
theorem trB_len (b : Bool) : (trB b).length = 1 := rfl
theorem evB_len {e : MEv} (h : e.Ok) : (evB e).length ≤ 200 + e.body.length := by
  have h1 := viB_len e.fr
  have h2 := viB_len e.dev
  have h3 := viB_len e.signed
  have h4 := viB_len (oneN e.one)
  have h5 := viB_len (e.body.length : Int)
  have h6 := hdB_len h.head
  have h7 := h.eph
  unfold evB
  simp only [List.length_append, trB_len]
  omega
theorem szHd {h : MHd} (e : h.r.length = 32) : (Try.prog.info? 62).map (·.size) = some (hdC h).length := by rw [hdC_len e]; kernel_rfl
theorem szEv {e : MEv} (h : e.Ok) (v : Value) : (Try.prog.info? 64).map (·.size) = some (evC e v).length := by rw [evC_len h]; kernel_rfl
theorem enters_envelope10 : Enters 24 := enters_of Try.func24 (by kernel_rfl) rfl
set_option maxHeartbeats 16000000 in
theorem envelope10_any (e : MEv) (v : Value) (w : World) (he : e.Ok) (hv : Sl v e.body w) : Calls Try.prog 24 #[.agg (evC e v).toArray] w fun x w' => ∃ v', x = .returned v' ∧ S5 w v' (evB e) w' := by
  have HB := Lib.hid hv; clear hv
  have EO : Hid (evB e = viB e.fr ++ viB e.dev ++ trB e.first ++ e.eph ++ viB e.signed ++ viB (oneN e.one) ++ hdB e.head ++ (viB (e.body.length : Int) ++ e.body)) := Lib.hid rfl
  have lE := he.eph
  have lH := hdC_len he.head
  have C0 : Hid (∀ (V : World) (g : Nat), Arr g (evC e v) V → V.cell? ⟨g, 0, none⟩ = some (.int .i64 e.fr)) := Lib.hid fun V g h => cell_app (A := []) h rfl rfl
  have C1 : Hid (∀ (V : World) (g : Nat), Arr g (evC e v) V → V.cell? ⟨g, 1, none⟩ = some (.int .i64 e.dev)) := Lib.hid fun V g h => cell_app (A := [.int .i64 e.fr]) h rfl rfl
  have C2 : Hid (∀ (V : World) (g : Nat), Arr g (evC e v) V → V.cell? ⟨g, 2, none⟩ = some (.bool e.first)) := Lib.hid fun V g h => cell_app (A := [.int .i64 e.fr, .int .i64 e.dev]) h rfl rfl
  have R3 : Hid (∀ (V : World) (g : Nat), Arr g (evC e v) V → V.rangeAt g 3 (e.eph.map b8)) := Lib.hid fun V g h => rng_app (A := [.int .i64 e.fr, .int .i64 e.dev, .bool e.first]) h rfl rfl
  have C35 : Hid (∀ (V : World) (g : Nat), Arr g (evC e v) V → V.cell? ⟨g, 35, none⟩ = some (.int .i64 e.signed)) := Lib.hid fun V g h => cell_app (A := .int .i64 e.fr :: .int .i64 e.dev :: .bool e.first :: e.eph.map b8) (C := .int .i64 e.one :: (hdC e.head ++ [v])) h (by simp [evC]) (by simp [lE])
  have C36 : Hid (∀ (V : World) (g : Nat), Arr g (evC e v) V → V.cell? ⟨g, 36, none⟩ = some (.int .i64 e.one)) := Lib.hid fun V g h => cell_app (A := .int .i64 e.fr :: .int .i64 e.dev :: .bool e.first :: (e.eph.map b8 ++ [.int .i64 e.signed])) (C := hdC e.head ++ [v]) h (by simp [evC]) (by simp [lE])
  have R37 : Hid (∀ (V : World) (g : Nat), Arr g (evC e v) V → V.rangeAt g 37 (hdC e.head)) := Lib.hid fun V g h => rng_app (A := .int .i64 e.fr :: .int .i64 e.dev :: .bool e.first :: (e.eph.map b8 ++ [.int .i64 e.signed, .int .i64 e.one])) (C := [v]) h (by simp [evC]) (by simp [lE])
  have C71 : Hid (∀ (V : World) (g : Nat), Arr g (evC e v) V → V.cell? ⟨g, 71, none⟩ = some v) := Lib.hid fun V g h => cell_app (A := .int .i64 e.fr :: .int .i64 e.dev :: .bool e.first :: (e.eph.map b8 ++ (.int .i64 e.signed :: .int .i64 e.one :: hdC e.head))) (C := []) h (by simp [evC]) (by simp [lE, lH])
  have SK := Lib.hid (szKy he.eph)
  have SH := Lib.hid (szHd he.head)
  have hhl := hdB_len he.head
  have hbl := he.body
  have CH : Hid (∀ u : World, Calls Try.prog 27 #[.agg (hdC e.head).toArray] u fun x w' => ∃ v', x = .returned v' ∧ S5 u v' (hdB e.head) w') := Lib.hid fun u => header10_any e.head u he.head
  have CT : Hid (∀ u : World, Calls Try.prog 62 #[.string (strOf e.body)] u fun x w' => ∃ v', x = .returned v' ∧ S5 u v' (viB (e.body.length : Int) ++ e.body) w') := Lib.hid fun u => by
    have hs : (strOf e.body).size = e.body.length := by rw [← sbL_len, sbL_strOf]
    have h := text10_any (strOf e.body) u (by rw [hs]; omega)
    rwa [hs, sbL_strOf] at h
  have htl : (viB (e.body.length : Int) ++ e.body).length ≤ 100006 := by have := viB_len (e.body.length : Int); rw [List.length_append]; omega
  have hv1 := viB_len e.fr
  have hv2 := viB_len e.dev
  have hv3 := viB_len e.signed
  have hv4 := viB_len (oneN e.one)
  have CB : Hid (∀ u : World, Calls Try.prog 61 #[.bool e.first] u fun x w' => ∃ v', x = .returned v' ∧ Tl u v' (trB e.first) w') := Lib.hid fun u => truth10_any _ u
  have htr := trB_len e.first
  have CN1 : Hid (∀ u : World, Calls Try.prog 58 #[.int .i64 e.fr] u fun q w' => ∃ v', q = .returned v' ∧ S5 u v' (viB e.fr) w') := Lib.hid fun u => number10_any _ u
  have CN2 : Hid (∀ u : World, Calls Try.prog 58 #[.int .i64 e.dev] u fun q w' => ∃ v', q = .returned v' ∧ S5 u v' (viB e.dev) w') := Lib.hid fun u => number10_any _ u
  have CN3 : Hid (∀ u : World, Calls Try.prog 58 #[.int .i64 e.signed] u fun q w' => ∃ v', q = .returned v' ∧ S5 u v' (viB e.signed) w') := Lib.hid fun u => number10_any _ u
  have CN4 : Hid (∀ u : World, Calls Try.prog 58 #[.int .i64 (oneN e.one)] u fun q w' => ∃ v', q = .returned v' ∧ S5 u v' (viB (oneN e.one)) w') := Lib.hid fun u => number10_any _ u
  have EON : Hid (oneN e.one = if 0 ≤ e.one then min e.one 1099511627775 + 1 else 0) := Lib.hid rfl
  generalize evB e = out at *
  generalize evC e v = CL at *
  generalize viB e.fr = N1 at *
  generalize viB e.dev = N2 at *
  generalize viB e.signed = N3 at *
  generalize viB (oneN e.one) = N4 at *
  generalize oneN e.one = ON at *
  generalize trB e.first = TR at *
  generalize viB (e.body.length : Int) ++ e.body = TX at *
  generalize hdB e.head = HD at *
  generalize hdC e.head = HC0 at *
  generalize e.eph = k at *
  generalize e.fr = x1 at *
  generalize e.dev = x2 at *
  generalize e.signed = x3 at *
  generalize e.one = x4 at *
  generalize e.first = x5 at *
  generalize e.body = bd at *
  clear he e
  have hM := Lib.hid (Mv.nil w)
  go_enter Try.func24, Try.ntmps24
  go_upto_region 0 with fail; refine wp_region_lit ?_
  refine wpList_val (run_boxL8 (vs := CL) rfl rfl) rfl ?_; (try simp only [Act.put, List.setIfInBounds_toArray, List.set_cons_zero, List.set_cons_succ]); replace hM := Lib.hid (hM.out.new (CL) 64); generalize w.alloc (.cells (CL).toArray 64) = a1 at *; generalize w.heap.size = g1 at *
  refine wpList_val (run_asg (v := .slice none 0 0) rfl rfl) rfl ?_; (try simp only [Act.put, List.setIfInBounds_toArray, List.set_cons_zero, List.set_cons_succ])
  refine wpList_end ?_
  go_upto_region 1 with fail; refine wp_region_lit ?_
  refine wpList_val (run_asg (v := .int .i64 0) rfl rfl) rfl ?_; (try simp only [Act.put, List.setIfInBounds_toArray, List.set_cons_zero, List.set_cons_succ])
  refine wpList_end ?_
  go_upto_region 2 with fail; refine wp_region_lit ?_
  refine wpList_val (run_fad (s := 0) (k := 36) rfl Try.underlying64 rfl (by kernel_rfl) rfl rfl) rfl ?_; (try simp only [Act.put, List.setIfInBounds_toArray, List.set_cons_zero, List.set_cons_succ])
  refine wpList_val (run_ldi rfl rfl (C36.out _ _ (hM.out.get (i := 0) rfl))) rfl ?_; (try simp only [Act.put, List.setIfInBounds_toArray, List.set_cons_zero, List.set_cons_succ])
  refine wpList_val (run_geqI rfl rfl rfl rfl) rfl ?_; (try simp only [Act.put, List.setIfInBounds_toArray, List.set_cons_zero, List.set_cons_succ])
  refine wpList_end ?_
  go_upto_if 6 with fail
  go_cut [3] (fun s3 u => s3 = .int .i64 ON ∧ u = a1)
  case first =>
    by_cases hge : 0 ≤ x4
    · rw [if_pos hge] at EON
      rw [decide_eq_true hge]
      go_upto_region 3 with fail; refine wp_region_lit ?_
      refine wpList_val (run_fad (s := 0) (k := 36) rfl Try.underlying64 rfl (by kernel_rfl) rfl rfl) rfl ?_; (try simp only [Act.put, List.setIfInBounds_toArray, List.set_cons_zero, List.set_cons_succ])
      refine wpList_val (run_ldi rfl rfl (C36.out _ _ (hM.out.get (i := 0) rfl))) rfl ?_; (try simp only [Act.put, List.setIfInBounds_toArray, List.set_cons_zero, List.set_cons_succ])
      refine wpList_val (run_minI _ rfl rfl rfl) rfl ?_; (try simp only [Act.put, List.setIfInBounds_toArray, List.set_cons_zero, List.set_cons_succ])
      refine wpList_val (run_add rfl rfl rfl (by omega) (by omega)) rfl ?_; (try simp only [Act.put, List.setIfInBounds_toArray, List.set_cons_zero, List.set_cons_succ])
      rw [← EON.out]
      refine wpList_val (run_asg (v := .int .i64 ON) rfl rfl) rfl ?_; (try simp only [Act.put, List.setIfInBounds_toArray, List.set_cons_zero, List.set_cons_succ])
      refine wpList_end ?_
      go_wp2_with fail
      go_meet
      exact ⟨rfl, rfl⟩
    · rw [if_neg hge] at EON
      rw [decide_eq_false hge]
      go_wp2_with fail
      go_meet
      exact ⟨by rw [EON.out], rfl⟩
  case rest =>
    obtain ⟨rfl, rfl⟩ := hcut
    clear EON
    generalize hw7 : wc = a1 at *
    clear hw7
    go_upto_region 4 with fail
    refine wp_region_noPanic ?_; refine wp_region_late (S := fun _ V => Below a1.heap.size a1 V) (by kernel_rfl) ((Below.refl _ _).drew) (fun hS => ?_)
    refine wpAnyL_take 0 rfl rfl (by kernel_rfl) (by kernel_rfl) (by kernel_rfl) (fun _ _ _ h => h) rfl (fun V hV => run_fad (s := 0) (k := 0) rfl Try.underlying64 rfl (by kernel_rfl) rfl rfl) hS ?_; (try simp only [Act.put, List.setIfInBounds_toArray, List.set_cons_zero, List.set_cons_succ])
    refine wpAnyL_take 1 rfl rfl (by kernel_rfl) (by kernel_rfl) (by kernel_rfl) (fun _ _ _ h => h) rfl (fun V hV => run_ldi rfl rfl (C0.out _ _ ((hM.out.below hV).get (i := 0) rfl))) hS ?_; (try simp only [Act.put, List.setIfInBounds_toArray, List.set_cons_zero, List.set_cons_succ])
    refine wpAnyL_take 3 rfl rfl (by kernel_rfl) (by kernel_rfl) (by kernel_rfl) (fun _ _ _ h => h) rfl (fun V hV => run_fad (s := 0) (k := 1) rfl Try.underlying64 rfl (by kernel_rfl) rfl rfl) hS ?_; (try simp only [Act.put, List.setIfInBounds_toArray, List.set_cons_zero, List.set_cons_succ])
    refine wpAnyL_take 4 rfl rfl (by kernel_rfl) (by kernel_rfl) (by kernel_rfl) (fun _ _ _ h => h) rfl (fun V hV => run_ldi rfl rfl (C1.out _ _ ((hM.out.below hV).get (i := 0) rfl))) hS ?_; (try simp only [Act.put, List.setIfInBounds_toArray, List.set_cons_zero, List.set_cons_succ])
    refine wpAnyL_take 6 rfl rfl (by kernel_rfl) (by kernel_rfl) (by kernel_rfl) (fun _ _ _ h => h) rfl (fun V hV => run_fad (s := 0) (k := 2) rfl Try.underlying64 rfl (by kernel_rfl) rfl rfl) hS ?_; (try simp only [Act.put, List.setIfInBounds_toArray, List.set_cons_zero, List.set_cons_succ])
    refine wpAnyL_take 7 rfl rfl (by kernel_rfl) (by kernel_rfl) (by kernel_rfl) (fun _ _ _ h => h) rfl (fun V hV => run_ldb rfl rfl (C2.out _ _ ((hM.out.below hV).get (i := 0) rfl))) hS ?_; (try simp only [Act.put, List.setIfInBounds_toArray, List.set_cons_zero, List.set_cons_succ])
    refine wpAnyL_take 9 rfl rfl (by kernel_rfl) (by kernel_rfl) (by kernel_rfl) (fun _ _ _ h => h) rfl (fun V hV => run_fad (s := 31) (k := 3) rfl Try.underlying64 rfl (by kernel_rfl) rfl rfl) hS ?_; (try simp only [Act.put, List.setIfInBounds_toArray, List.set_cons_zero, List.set_cons_succ])
    refine wpAnyL_take 10 rfl rfl (by kernel_rfl) (by kernel_rfl) (by kernel_rfl) (fun _ _ _ h => h) rfl (fun V hV => run_ldM (vs := k.map b8) rfl Try.underlying35 rfl SK.out rfl (R3.out _ _ ((hM.out.below hV).get (i := 0) rfl))) hS ?_; (try simp only [Act.put, List.setIfInBounds_toArray, List.set_cons_zero, List.set_cons_succ])
    refine wpAnyL_take 12 rfl rfl (by kernel_rfl) (by kernel_rfl) (by kernel_rfl) (fun _ _ _ h => h) rfl (fun V hV => run_fad (s := 0) (k := 35) rfl Try.underlying64 rfl (by kernel_rfl) rfl rfl) hS ?_; (try simp only [Act.put, List.setIfInBounds_toArray, List.set_cons_zero, List.set_cons_succ])
    refine wpAnyL_take 13 rfl rfl (by kernel_rfl) (by kernel_rfl) (by kernel_rfl) (fun _ _ _ h => h) rfl (fun V hV => run_ldi rfl rfl (C35.out _ _ ((hM.out.below hV).get (i := 0) rfl))) hS ?_; (try simp only [Act.put, List.setIfInBounds_toArray, List.set_cons_zero, List.set_cons_succ])
    refine wpAnyL_take 15 rfl rfl (by kernel_rfl) (by kernel_rfl) (by kernel_rfl) (fun _ _ _ h => h) rfl (fun V hV => run_mv (v := .int .i64 ON) rfl rfl) hS ?_; (try simp only [Act.put, List.setIfInBounds_toArray, List.set_cons_zero, List.set_cons_succ])
    refine wpAnyL_take 17 rfl rfl (by kernel_rfl) (by kernel_rfl) (by kernel_rfl) (fun _ _ _ h => h) rfl (fun V hV => run_fad (s := 33) (k := 37) rfl Try.underlying64 rfl (by kernel_rfl) rfl rfl) hS ?_; (try simp only [Act.put, List.setIfInBounds_toArray, List.set_cons_zero, List.set_cons_succ])
    refine wpAnyL_take 18 rfl rfl (by kernel_rfl) (by kernel_rfl) (by kernel_rfl) (fun _ _ _ h => h) rfl (fun V hV => run_ldM (vs := HC0) rfl Try.underlying62 rfl SH.out rfl (R37.out _ _ ((hM.out.below hV).get (i := 0) rfl))) hS ?_; (try simp only [Act.put, List.setIfInBounds_toArray, List.set_cons_zero, List.set_cons_succ])
    refine wpAnyL_take 20 rfl rfl (by kernel_rfl) (by kernel_rfl) (by kernel_rfl) (fun _ _ _ h => h) rfl (fun V hV => run_fad (s := 0) (k := 71) rfl Try.underlying64 rfl (by kernel_rfl) rfl rfl) hS ?_; (try simp only [Act.put, List.setIfInBounds_toArray, List.set_cons_zero, List.set_cons_succ])
    refine wpAnyL_take 21 rfl rfl (by kernel_rfl) (by kernel_rfl) (by kernel_rfl) (fun _ _ _ h => h) rfl (fun V hV => run_ldSl rfl rfl (C71.out _ _ ((hM.out.below hV).get (i := 0) rfl))) hS ?_; (try simp only [Act.put, List.setIfInBounds_toArray, List.set_cons_zero, List.set_cons_succ])
    refine wpAnyL_take 22 rfl rfl (by kernel_rfl) (by kernel_rfl) (by kernel_rfl) (fun _ _ _ h => h) rfl (fun V hV => run_str rfl rfl (HB.out.below (hM.out.below hV).bl)) hS ?_; (try simp only [Act.put, List.setIfInBounds_toArray, List.set_cons_zero, List.set_cons_succ])
    refine wpAnyL_call 2 (by kernel_rfl) rfl rfl rfl (run_call1 enters_number10 rfl rfl rfl) (CN1.out _) (fun v w h => hS.trans (h.bl.mono hS.size)) (fun vb1 ub1 hR => ?_); (try simp only [Act.put, List.setIfInBounds_toArray, List.set_cons_zero, List.set_cons_succ])
    have hb := hR.bl
    have HB1 := Lib.hid hR.sl
    clear hR
    replace hS := hS.trans (hb.mono hS.size)
    clear hb
    obtain ⟨xa1, xc1, rfl, -, -⟩ := id HB1.out
    refine wpAnyL_call 5 (by kernel_rfl) rfl rfl rfl (run_call1 enters_number10 rfl rfl rfl) (CN2.out _) (fun v w h => hS.trans (h.bl.mono hS.size)) (fun vb2 ub2 hR => ?_); (try simp only [Act.put, List.setIfInBounds_toArray, List.set_cons_zero, List.set_cons_succ])
    have hb := hR.bl
    have HB2 := Lib.hid hR.sl
    clear hR
    replace hS := hS.trans (hb.mono hS.size)
    replace HB1 := Lib.hid (HB1.out.below hb)
    clear hb
    obtain ⟨xa2, xc2, rfl, -, -⟩ := id HB2.out
    refine wpAnyL_call 8 (by kernel_rfl) rfl rfl rfl (run_call1 enters_truth10 rfl rfl rfl) (CB.out _) (fun v w h => hS.trans (h.bl.mono hS.size)) (fun vb3 ub3 hR => ?_); (try simp only [Act.put, List.setIfInBounds_toArray, List.set_cons_zero, List.set_cons_succ])
    have hb := hR.bl
    have HB3 := Lib.hid hR.s
    clear hR
    replace hS := hS.trans (hb.mono hS.size)
    replace HB1 := Lib.hid (HB1.out.below hb)
    replace HB2 := Lib.hid (HB2.out.below hb)
    clear hb
    obtain ⟨xa3, xc3, rfl, -, -⟩ := id HB3.out
    refine wpAnyL_call 11 (by kernel_rfl) rfl rfl rfl (run_call1 enters_key10 rfl rfl rfl) (key10_any k _ lE) (fun v w h => hS.trans (h.bl.mono hS.size)) (fun vb4 ub4 hR => ?_); (try simp only [Act.put, List.setIfInBounds_toArray, List.set_cons_zero, List.set_cons_succ])
    have hb := hR.bl
    have HB4 := Lib.hid hR.sl
    clear hR
    replace hS := hS.trans (hb.mono hS.size)
    replace HB1 := Lib.hid (HB1.out.below hb)
    replace HB2 := Lib.hid (HB2.out.below hb)
    replace HB3 := Lib.hid (HB3.out.below hb)
    clear hb
    obtain ⟨xa4, xc4, rfl, -, -⟩ := id HB4.out
    refine wpAnyL_call 14 (by kernel_rfl) rfl rfl rfl (run_call1 enters_number10 rfl rfl rfl) (CN3.out _) (fun v w h => hS.trans (h.bl.mono hS.size)) (fun vb5 ub5 hR => ?_); (try simp only [Act.put, List.setIfInBounds_toArray, List.set_cons_zero, List.set_cons_succ])
    have hb := hR.bl
    have HB5 := Lib.hid hR.sl
    clear hR
    replace hS := hS.trans (hb.mono hS.size)
    replace HB1 := Lib.hid (HB1.out.below hb)
    replace HB2 := Lib.hid (HB2.out.below hb)
    replace HB3 := Lib.hid (HB3.out.below hb)
    replace HB4 := Lib.hid (HB4.out.below hb)
    clear hb
    obtain ⟨xa5, xc5, rfl, -, -⟩ := id HB5.out
    refine wpAnyL_call 16 (by kernel_rfl) rfl rfl rfl (run_call1 enters_number10 rfl rfl rfl) (CN4.out _) (fun v w h => hS.trans (h.bl.mono hS.size)) (fun vb6 ub6 hR => ?_); (try simp only [Act.put, List.setIfInBounds_toArray, List.set_cons_zero, List.set_cons_succ])
    have hb := hR.bl
    have HB6 := Lib.hid hR.sl
    clear hR
    replace hS := hS.trans (hb.mono hS.size)
    replace HB1 := Lib.hid (HB1.out.below hb)
    replace HB2 := Lib.hid (HB2.out.below hb)
    replace HB3 := Lib.hid (HB3.out.below hb)
    replace HB4 := Lib.hid (HB4.out.below hb)
    replace HB5 := Lib.hid (HB5.out.below hb)
    clear hb
    obtain ⟨xa6, xc6, rfl, -, -⟩ := id HB6.out
    refine wpAnyL_call 19 (by kernel_rfl) rfl rfl rfl (run_call1 enters_header10 rfl rfl rfl) (CH.out _) (fun v w h => hS.trans (h.bl.mono hS.size)) (fun vb7 ub7 hR => ?_); (try simp only [Act.put, List.setIfInBounds_toArray, List.set_cons_zero, List.set_cons_succ])
    have hb := hR.bl
    have HB7 := Lib.hid hR.sl
    clear hR
    replace hS := hS.trans (hb.mono hS.size)
    replace HB1 := Lib.hid (HB1.out.below hb)
    replace HB2 := Lib.hid (HB2.out.below hb)
    replace HB3 := Lib.hid (HB3.out.below hb)
    replace HB4 := Lib.hid (HB4.out.below hb)
    replace HB5 := Lib.hid (HB5.out.below hb)
    replace HB6 := Lib.hid (HB6.out.below hb)
    clear hb
    obtain ⟨xa7, xc7, rfl, -, -⟩ := id HB7.out
    refine wpAnyL_call 23 (by kernel_rfl) rfl rfl rfl (run_call1 enters_text10 rfl rfl rfl) (CT.out _) (fun v w h => hS.trans (h.bl.mono hS.size)) (fun vb8 ub8 hR => ?_); (try simp only [Act.put, List.setIfInBounds_toArray, List.set_cons_zero, List.set_cons_succ])
    have hb := hR.bl
    have HB8 := Lib.hid hR.sl
    clear hR
    replace hS := hS.trans (hb.mono hS.size)
    replace HB1 := Lib.hid (HB1.out.below hb)
    replace HB2 := Lib.hid (HB2.out.below hb)
    replace HB3 := Lib.hid (HB3.out.below hb)
    replace HB4 := Lib.hid (HB4.out.below hb)
    replace HB5 := Lib.hid (HB5.out.below hb)
    replace HB6 := Lib.hid (HB6.out.below hb)
    replace HB7 := Lib.hid (HB7.out.below hb)
    clear hb
    obtain ⟨xa8, xc8, rfl, -, -⟩ := id HB8.out
    have HC : Hid (Cat ub8.heap.size [.slice xa1 N1.length xc1, .slice xa2 N2.length xc2, .slice xa3 TR.length xc3, .slice xa4 k.length xc4, .slice xa5 N3.length xc5, .slice xa6 N4.length xc6, .slice xa7 HD.length xc7, .slice xa8 TX.length xc8] [N1, N2, TR, k, N3, N4, HD, TX] (ub8.alloc (.cells #[.slice xa1 N1.length xc1, .slice xa2 N2.length xc2, .slice xa3 TR.length xc3, .slice xa4 k.length xc4, .slice xa5 N3.length xc5, .slice xa6 N4.length xc6, .slice xa7 HD.length xc7, .slice xa8 TX.length xc8] 22))) := Lib.hid (cat_row ub8 _ [N1, N2, TR, k, N3, N4, HD, TX] fun i hi => match i, hi with
      | 0, _ => ⟨_, rfl, HB1.out⟩
      | 1, _ => ⟨_, rfl, HB2.out⟩
      | 2, _ => ⟨_, rfl, HB3.out⟩
      | 3, _ => ⟨_, rfl, HB4.out⟩
      | 4, _ => ⟨_, rfl, HB5.out⟩
      | 5, _ => ⟨_, rfl, HB6.out⟩
      | 6, _ => ⟨_, rfl, HB7.out⟩
      | 7, _ => ⟨_, rfl, HB8.out⟩)
    refine wpAnyL_val 24 (by kernel_rfl) rfl rfl rfl (run_bsl (cells := #[.slice xa1 N1.length xc1, .slice xa2 N2.length xc2, .slice xa3 TR.length xc3, .slice xa4 k.length xc4, .slice xa5 N3.length xc5, .slice xa6 N4.length xc6, .slice xa7 HD.length xc7, .slice xa8 TX.length xc8]) (z := .slice none 0 0) rfl Try.underlying122 (by kernel_rfl) (by omega) (by omega) (by kernel_rfl)) (hS.alloc hS.size _) ?_; (try simp only [Act.put, List.setIfInBounds_toArray, List.set_cons_zero, List.set_cons_succ])
    replace hS := hS.alloc hS.size (.cells #[.slice xa1 N1.length xc1, .slice xa2 N2.length xc2, .slice xa3 TR.length xc3, .slice xa4 k.length xc4, .slice xa5 N3.length xc5, .slice xa6 N4.length xc6, .slice xa7 HD.length xc7, .slice xa8 TX.length xc8] 22)
    generalize ub8.alloc (.cells #[.slice xa1 N1.length xc1, .slice xa2 N2.length xc2, .slice xa3 TR.length xc3, .slice xa4 k.length xc4, .slice xa5 N3.length xc5, .slice xa6 N4.length xc6, .slice xa7 HD.length xc7, .slice xa8 TX.length xc8] 22) = uc at *
    generalize ub8.heap.size = gc at *
    refine wpAnyL_call 25 (by kernel_rfl) rfl rfl rfl (run_call1 enters_all10 rfl rfl rfl) (all10_any gc _ [N1, N2, TR, k, N3, N4, HD, TX] 8 _ HC.out rfl (by omega) (by simp; omega)) (fun v w h => hS.trans (h.bl.mono hS.size)) (fun VL uz hR => ?_); (try simp only [Act.put, List.setIfInBounds_toArray, List.set_cons_zero, List.set_cons_succ])
    have HL := Lib.hid hR
    have hbu := hS
    replace hS := hS.trans (hR.bl.mono hS.size)
    clear hR
    refine wpAnyL_take 26 rfl rfl (by kernel_rfl) (by kernel_rfl) (by kernel_rfl) (fun _ _ _ h => h) rfl (fun V hV => run_asg (v := VL) rfl rfl) hS ?_; (try simp only [Act.put, List.setIfInBounds_toArray, List.set_cons_zero, List.set_cons_succ])
    refine wpAnyL_done (by kernel_rfl) ?_ _; refine NoPanic.normal ?_
    have hI : Hid (S5 w VL out uz) := Lib.hid (by
      have h := HL.out.mono (hM.out.below hbu).bl
      rw [EO.out]
      simpa using h)
    go_wp2_with fail
    exact bodyPost_ret (results_tmp Try.results24 _ _ _) rfl ⟨_, rfl, hI.out⟩
end Go.Proofs.Ytgioojahadlmhaa
namespace Go.Proofs.Ytgioojahadlmhaa
open Go.RowKit
set_option maxRecDepth 20000
attribute [local irreducible] wpList

def trM (b : List (BitVec 8)) (s : Nat × Int) : (Nat × Int) × Bool :=
  if tkE b.length s.1 s.2 1 = 0 then (if 1 < (b.getD s.1 0).toNat then ((s.1 + 1, 11), false) else ((s.1 + 1, 0), decide ((b.getD s.1 0).toNat = 1)))
  else ((tkI b.length s.1 s.2 1, tkE b.length s.1 s.2 1), false)
theorem trM_le {b : List (BitVec 8)} {s : Nat × Int} (h : s.1 ≤ b.length) : (trM b s).1.1 ≤ b.length := by
  unfold trM
  by_cases he : tkE b.length s.1 s.2 1 = 0
  · have := tk_room h he
    rw [if_pos he]
    split
    · exact this
    · exact this
  · rw [if_neg he]
    show tkI b.length s.1 s.2 1 ≤ _
    unfold tkI
    rw [if_neg he]; exact h
def byM (b : List (BitVec 8)) (s : Nat × Int) : (Nat × Int) × List (BitVec 8) :=
  let r := nM b 60000 s
  ((tkI b.length r.1.1 r.1.2 r.2.toNat, tkE b.length r.1.1 r.1.2 r.2.toNat), if tkE b.length r.1.1 r.1.2 r.2.toNat = 0 then (b.drop r.1.1).take r.2.toNat else [])
theorem byM_le {b : List (BitVec 8)} {s : Nat × Int} (h : s.1 ≤ b.length) : (byM b s).1.1 ≤ b.length := by
  have h1 := nM_le (most := 60000) h
  show tkI b.length (nM b 60000 s).1.1 (nM b 60000 s).1.2 (nM b 60000 s).2.toNat ≤ _
  unfold tkI
  by_cases he : tkE b.length (nM b 60000 s).1.1 (nM b 60000 s).1.2 (nM b 60000 s).2.toNat = 0
  · rw [if_pos he]; exact tk_room h1 he
  · rw [if_neg he]; exact h1
theorem fro_sl {B : Nat} {v : Value} {l : List (BitVec 8)} {u : World} (h : u.ownsRow B 5 1 v l.length (l.map b8)) : Fro B (Sl v l) u := fun _ hV =>
  Sl.own (base := B) (ownsRow_at h fun k hk => hV.block k (ownsRow_block h hk).1 (ownsRow_block h hk).2 (by simp))
theorem sl_cutO {ao : Option Addr} {c i n : Nat} {b : List (BitVec 8)} {V : World} (h : Sl (.slice ao b.length c) b V) (hi : i + n ≤ b.length) : Sl (cutO ao (i + n) c i) ((b.drop i).take n) V := by
  have h1 := h.part (lo := i) (hi := i + n) (by omega) (by omega)
  have e : (b.take (i + n)).drop i = (b.drop i).take n := by rw [List.drop_take, Nat.add_sub_cancel_left]
  rwa [e] at h1
end Go.Proofs.Ytgioojahadlmhaa
namespace Go.Proofs.Ytgioojahadlmhaa
open Go.RowKit
set_option maxRecDepth 20000
attribute [local irreducible] wpList

theorem pkC_en {p : MPk} : pkC p = enR (.int .i64 p.id) (p.key.map b8) := by unfold pkC enR; rfl
theorem evC_row {e : MEv} {v : Value} : evC e v = evR (.int .i64 e.fr) (.int .i64 e.dev) (.bool e.first) (e.eph.map b8) (.int .i64 e.signed) (.int .i64 e.one) (hdC e.head) v := by unfold evC evR; rfl
theorem hdC_one {h : MHd} : One (hdC h) := by rw [hdC_row]; exact hdR_one (One.b8 _) rfl rfl
/-- A list of devices, a stock, a device's slot, as plain things. -/
structure MLs where
  acc : Int
  ver : Int
  ident : List (BitVec 8)
  devs : List MPk
  sig : List (BitVec 8)
structure MBu where
  acc : Int
  dev : Int
  ident : List (BitVec 8)
  key : List (BitVec 8)
  signed : MPk
  sig : List (BitVec 8)
  ones : List MPk
structure MSlot where
  dev : Int
  signed : MPk
  sig : List (BitVec 8)
  ones : List MPk
  last : Int
  mail : List MEv
def tkAt (k : List (BitVec 8)) (cs : List Value) (_ : World) : Prop := cs = k.map b8
def evAt (m : MEv) (cs : List Value) (V : World) : Prop := ∃ a c, cs = evC m (.slice a m.body.length c) ∧ Sl (.slice a m.body.length c) m.body V
def itAt (m : Int × MEv) (cs : List Value) (V : World) : Prop := ∃ cs', cs = itR (.int .i64 m.1) cs' ∧ evAt m.2 cs' V
def lsAt (m : MLs) (cs : List Value) (V : World) : Prop := ∃ a c, cs = lsR (.int .i64 m.acc) (.int .i64 m.ver) (m.ident.map b8) (.slice a m.devs.length c) (m.sig.map b8) ∧ SlR 33 pkAt m.devs a c V
def buAt (m : MBu) (cs : List Value) (V : World) : Prop := ∃ a c, cs = buR (.int .i64 m.acc) (.int .i64 m.dev) (m.ident.map b8) (m.key.map b8) (pkC m.signed) (m.sig.map b8) (.slice a m.ones.length c) ∧ SlR 33 pkAt m.ones a c V
def slAt (m : MSlot) (cs : List Value) (V : World) : Prop := ∃ a c a2 c2, cs = slR (.int .i64 m.dev) (pkC m.signed) (m.sig.map b8) (.slice a m.ones.length c) (.int .i64 m.last) (.slice a2 m.mail.length c2) ∧ SlR 33 pkAt m.ones a c V ∧ SlR 72 evAt m.mail a2 c2 V
/-- Things and their rows. -/
def LR {α : Type} (At : α → List Value → World → Prop) (l : List α) (css : List (List Value)) (V : World) : Prop := css.length = l.length ∧ ∀ (i : Nat) (m : α) (cs : List Value), l[i]? = some m → css[i]? = some cs → At m cs V
theorem LR.nil {α : Type} {At : α → List Value → World → Prop} (V : World) : LR At ([] : List α) [] V := ⟨rfl, fun _ _ _ h => by simp at h⟩
theorem LR.snoc {α : Type} {At : α → List Value → World → Prop} {l : List α} {css : List (List Value)} {y : α} {X : List Value} {V : World} (h : LR At l css V) (hy : At y X V) : LR At (l ++ [y]) (css ++ [X]) V := by
  refine ⟨by rw [List.length_append, List.length_append, h.1]; rfl, fun i m cs h1 h2 => ?_⟩
  rcases Nat.lt_or_ge i l.length with hi | hi
  · rw [List.getElem?_append_left hi] at h1
    rw [List.getElem?_append_left (by rw [h.1]; exact hi)] at h2
    exact h.2 i m cs h1 h2
  · rw [List.getElem?_append_right hi] at h1
    rw [List.getElem?_append_right (by rw [h.1]; exact hi), h.1] at h2
    obtain ⟨h3, rfl⟩ : i - l.length = 0 ∧ m = y := by
      cases h4 : i - l.length with
      | zero => rw [h4] at h1; simpa using h1.symm
      | succ k => rw [h4] at h1; simp at h1
    rw [h3] at h2
    obtain rfl : cs = X := by simpa using h2.symm
    exact hy
theorem hdM_len {b : List (BitVec 8)} {s : Nat × Int} (h : s.1 ≤ b.length) : (hdM b s).2.r.length = 32 := kM_len h
def enM (b : List (BitVec 8)) (s : Nat × Int) : (Nat × Int) × List (MPk) := rowsM (pkM b) (nM b 60000 s).2.toNat (nM b 60000 s).1
theorem enM_le {b : List (BitVec 8)} {s : Nat × Int} (h : s.1 ≤ b.length) : (enM b s).1.1 ≤ b.length := rowsM_le (fun _ h => pkM_le h) _ (nM_le h)
def tkM (b : List (BitVec 8)) (s : Nat × Int) : (Nat × Int) × List (List (BitVec 8)) := rowsM (kM 32 b) (nM b 60000 s).2.toNat (nM b 60000 s).1
theorem tkM_le {b : List (BitVec 8)} {s : Nat × Int} (h : s.1 ≤ b.length) : (tkM b s).1.1 ≤ b.length := rowsM_le (fun _ h => kM_le h) _ (nM_le h)
end Go.Proofs.Ytgioojahadlmhaa
namespace Go.Proofs.Ytgioojahadlmhaa
open Go.RowKit
set_option maxRecDepth 20000
attribute [local irreducible] wpList

def lsM (b : List (BitVec 8)) (s : Nat × Int) : (Nat × Int) × MLs :=
  let r1 := nM b 1099511627776 s
  let r2 := nM b 1099511627776 r1.1
  let r3 := kM 32 b r2.1
  let r4 := enM b r3.1
  let r5 := kM 64 b r4.1
  (r5.1, (⟨r1.2, r2.2, r3.2, r4.2, r5.2⟩ : MLs))
theorem lsM_le {b : List (BitVec 8)} {s : Nat × Int} (h : s.1 ≤ b.length) : (lsM b s).1.1 ≤ b.length := (kM_le (enM_le (kM_le (nM_le (nM_le h)))))
def buM (b : List (BitVec 8)) (s : Nat × Int) : (Nat × Int) × MBu :=
  let r1 := nM b 1099511627776 s
  let r2 := nM b 1099511627776 r1.1
  let r3 := kM 32 b r2.1
  let r4 := kM 32 b r3.1
  let r5 := pkM b r4.1
  let r6 := kM 64 b r5.1
  let r7 := psM b r6.1
  (r7.1, (⟨r1.2, r2.2, r3.2, r4.2, r5.2, r6.2, r7.2⟩ : MBu))
theorem buM_le {b : List (BitVec 8)} {s : Nat × Int} (h : s.1 ≤ b.length) : (buM b s).1.1 ≤ b.length := (psM_le (kM_le (pkM_le (kM_le (kM_le (nM_le (nM_le h)))))))
def evM (b : List (BitVec 8)) (s : Nat × Int) : (Nat × Int) × MEv :=
  let r1 := nM b 1099511627776 s
  let r2 := nM b 1099511627776 r1.1
  let r3 := trM b r2.1
  let r4 := kM 32 b r3.1
  let r5 := nM b 1099511627776 r4.1
  let r6 := nM b 1099511627776 r5.1
  let r7 := hdM b r6.1
  let r8 := byM b r7.1
  (r8.1, (⟨r1.2, r2.2, r3.2, r4.2, r5.2, r6.2 - 1, r7.2, r8.2⟩ : MEv))
theorem evM_le {b : List (BitVec 8)} {s : Nat × Int} (h : s.1 ≤ b.length) : (evM b s).1.1 ≤ b.length := (byM_le (hdM_le (nM_le (nM_le (kM_le (trM_le (nM_le (nM_le h))))))))
end Go.Proofs.Ytgioojahadlmhaa
namespace Go.Proofs.Ytgioojahadlmhaa
open Go.RowKit
set_option maxRecDepth 20000
attribute [local irreducible] wpList

def evsM (b : List (BitVec 8)) (s : Nat × Int) : (Nat × Int) × List (MEv) := rowsM (evM b) (nM b 60000 s).2.toNat (nM b 60000 s).1
theorem evsM_le {b : List (BitVec 8)} {s : Nat × Int} (h : s.1 ≤ b.length) : (evsM b s).1.1 ≤ b.length := rowsM_le (fun _ h => evM_le h) _ (nM_le h)
def itM (b : List (BitVec 8)) (s : Nat × Int) : (Nat × Int) × (Int × MEv) :=
  let r1 := nM b 1099511627776 s
  let r2 := evM b r1.1
  (r2.1, (r1.2, r2.2))
theorem itM_le {b : List (BitVec 8)} {s : Nat × Int} (h : s.1 ≤ b.length) : (itM b s).1.1 ≤ b.length := (evM_le (nM_le h))
def itsM (b : List (BitVec 8)) (s : Nat × Int) : (Nat × Int) × List (Int × MEv) := rowsM (itM b) (nM b 60000 s).2.toNat (nM b 60000 s).1
theorem itsM_le {b : List (BitVec 8)} {s : Nat × Int} (h : s.1 ≤ b.length) : (itsM b s).1.1 ≤ b.length := rowsM_le (fun _ h => itM_le h) _ (nM_le h)
def slM (b : List (BitVec 8)) (s : Nat × Int) : (Nat × Int) × (MSlot) :=
  let r1 := nM b 1099511627776 s
  let r2 := pkM b r1.1
  let r3 := kM 64 b r2.1
  let r4 := psM b r3.1
  let r5 := nM b 1099511627776 r4.1
  let r6 := evsM b r5.1
  (r6.1, (⟨r1.2, r2.2, r3.2, r4.2, r5.2, r6.2⟩ : MSlot))
theorem slM_le {b : List (BitVec 8)} {s : Nat × Int} (h : s.1 ≤ b.length) : (slM b s).1.1 ≤ b.length := (evsM_le (nM_le (psM_le (kM_le (pkM_le (nM_le h))))))
def slsM (b : List (BitVec 8)) (s : Nat × Int) : (Nat × Int) × List (MSlot) := rowsM (slM b) (nM b 60000 s).2.toNat (nM b 60000 s).1
theorem slsM_le {b : List (BitVec 8)} {s : Nat × Int} (h : s.1 ≤ b.length) : (slsM b s).1.1 ≤ b.length := rowsM_le (fun _ h => slM_le h) _ (nM_le h)
end Go.Proofs.Ytgioojahadlmhaa
namespace Go.Proofs.Ytgioojahadlmhaa
open Go.RowKit
set_option maxRecDepth 20000
attribute [local irreducible] wpList

/-- The bytes that are read, and the first error. -/
def beginM (b : List (BitVec 8)) : List (BitVec 8) × Int := if 60000 < b.length then ([], 3) else (b, 0)
theorem beginM_len (b : List (BitVec 8)) : (beginM b).1.length ≤ 60000 := by
  unfold beginM
  split
  · simp
  · show b.length ≤ 60000; omega
def endM (m i : Nat) (e : Int) : Int := if e = 0 ∧ i < m then 11 else e
theorem sl_nilR (w : World) : Sl (.slice none 0 0) [] w := ⟨none, 0, rfl, Nat.le_refl _, fun h => absurd rfl h⟩
theorem slR_nil {α : Type} (z : Nat) (At : α → List Value → World → Prop) (V : World) : SlR z At ([] : List α) none 0 V := ⟨Nat.le_refl _, [], rfl, (fun _ h => by cases h), (fun _ _ _ h => by simp at h), fun h => absurd rfl h⟩
theorem z8_map (n : Nat) : z8 n = (List.replicate n (0 : BitVec 8)).map b8 := rfl
def zLs : MLs := ⟨0, 0, List.replicate 32 0, [], List.replicate 64 0⟩
def zHd : MHd := ⟨List.replicate 32 0, 0, 0⟩
def zPk : MPk := ⟨0, List.replicate 32 0⟩
def zEv : MEv := ⟨0, 0, false, List.replicate 32 0, 0, 0, zHd, []⟩
def zBu : MBu := ⟨0, 0, List.replicate 32 0, List.replicate 32 0, zPk, List.replicate 64 0, []⟩
structure MRp where
  err : Int
  ls : MLs
  bu : MBu
  mail : List MEv
def rpAt (m : MRp) (cs : List Value) (V : World) : Prop := ∃ c1 c2 a c, cs = rpR (.int .u16 m.err) c1 c2 (.slice a m.mail.length c) ∧ lsAt m.ls c1 V ∧ buAt m.bu c2 V ∧ SlR 72 evAt m.mail a c V
theorem lsAt_zero (V : World) : lsAt zLs (lsR (.int .i64 0) (.int .i64 0) (z8 32) (.slice none 0 0) (z8 64)) V := ⟨none, 0, rfl, slR_nil _ _ _⟩
theorem buAt_zero (V : World) : buAt zBu (buR (.int .i64 0) (.int .i64 0) (z8 32) (z8 32) (pkR (.int .i64 0) (z8 32)) (z8 64) (.slice none 0 0)) V := ⟨none, 0, by rw [pkC_row]; rfl, slR_nil _ _ _⟩
theorem evAt_zero (V : World) : evAt zEv (evR (.int .i64 0) (.int .i64 0) (.bool false) (z8 32) (.int .i64 0) (.int .i64 0) (hdR (z8 32) (.int .i64 0) (.int .i64 0)) (.slice none 0 0)) V := ⟨none, 0, by rw [evC_row, hdC_row]; rfl, none, 0, rfl, Nat.le_refl _, fun h => absurd rfl h⟩
theorem run_cvu16 {w : World} {ρ : Operand → Value} {o : Oper} {x : Operand} {n : Int} (ho : o.op = .convert 3 28 x) (hx : ρ x = .int .i64 n) (h0 : 0 ≤ n) (h1 : n ≤ 255) : (execOp ρ o).run Try.prog w = .ok (.value (.int .u16 n)) w := by
  rw [run_cv ho Try.underlying3 Try.underlying28 hx]
  have e : IntKind.u16.wrap n = n := by simp only [IntKind.wrap, IntKind.bits, IntKind.signed]; simp; omega
  rw [e]
def rdLsA (b : List (BitVec 8)) (s : Nat × Int) : (Nat × Int) × MLs :=
  let r1 := lsM b s
  (r1.1, r1.2)
def rdLs (b : List (BitVec 8)) : MLs × Int :=
  let r := rdLsA (beginM b).1 (0, (beginM b).2)
  if endM (beginM b).1.length r.1.1 r.1.2 = 0 then (r.2, 0) else (zLs, endM (beginM b).1.length r.1.1 r.1.2)
def rdEvA (b : List (BitVec 8)) (s : Nat × Int) : (Nat × Int) × MEv :=
  let r1 := evM b s
  (r1.1, r1.2)
def rdEv (b : List (BitVec 8)) : MEv × Int :=
  let r := rdEvA (beginM b).1 (0, (beginM b).2)
  if endM (beginM b).1.length r.1.1 r.1.2 = 0 then (r.2, 0) else (zEv, endM (beginM b).1.length r.1.1 r.1.2)
def rdRpA (b : List (BitVec 8)) (s : Nat × Int) : (Nat × Int) × MRp :=
  let r1 := nM b 255 s
  let r2 := lsM b r1.1
  let r3 := buM b r2.1
  let r4 := evsM b r3.1
  (r4.1, (⟨r1.2, r2.2, r3.2, r4.2⟩ : MRp))
def rdRp (b : List (BitVec 8)) : MRp × Int :=
  let r := rdRpA (beginM b).1 (0, (beginM b).2)
  if endM (beginM b).1.length r.1.1 r.1.2 = 0 then (r.2, 0) else (⟨0, zLs, zBu, []⟩, endM (beginM b).1.length r.1.1 r.1.2)
end Go.Proofs.Ytgioojahadlmhaa
namespace Go.Proofs.Ytgioojahadlmhaa
open Go.RowKit
set_option maxRecDepth 20000
attribute [local irreducible] wpList

structure MRq where
  kind : Int
  acc : Int
  dev : Int
  pin : List (BitVec 8)
  next : List (BitVec 8)
  name : List (BitVec 8)
  ls : MLs
  token : List (BitVec 8)
  signed : MPk
  sig : List (BitVec 8)
  ones : List MPk
  ver : Int
  items : List (Int × MEv)
structure MAc where
  id : Int
  pin : List (BitVec 8)
  wrong : Int
  till : Int
  ls : MLs
  slots : List MSlot
  tokens : List (List (BitVec 8))
def rqAt (m : MRq) (cs : List Value) (V : World) : Prop := ∃ c1 a c a2 c2, cs = rqR (.int .u8 m.kind) (.int .i64 m.acc) (.int .i64 m.dev) (.string (strOf m.pin)) (.string (strOf m.next)) (.string (strOf m.name)) c1 (m.token.map b8) (pkC m.signed) (m.sig.map b8) (.slice a m.ones.length c) (.int .i64 m.ver) (.slice a2 m.items.length c2) ∧ lsAt m.ls c1 V ∧ SlR 33 pkAt m.ones a c V ∧ SlR 73 itAt m.items a2 c2 V
def acAt (m : MAc) (cs : List Value) (V : World) : Prop := ∃ c1 a c a2 c2, cs = acR (.int .i64 m.id) (.string (strOf m.pin)) (.int .i64 m.wrong) (.int .i64 m.till) c1 (.slice a m.slots.length c) (.slice a2 m.tokens.length c2) ∧ lsAt m.ls c1 V ∧ SlR 101 slAt m.slots a c V ∧ SlR 32 tkAt m.tokens a2 c2 V
def zRq : MRq := ⟨0, 0, 0, [], [], [], zLs, List.replicate 32 0, zPk, List.replicate 64 0, [], 0, []⟩
def zAc : MAc := ⟨0, [], 0, 0, zLs, [], []⟩
theorem run_cvu8R {w : World} {ρ : Operand → Value} {o : Oper} {x : Operand} {n : Int} (ho : o.op = .convert 3 5 x) (hx : ρ x = .int .i64 n) (h0 : 0 ≤ n) (h1 : n ≤ 255) : (execOp ρ o).run Try.prog w = .ok (.value (.int .u8 n)) w := by
  rw [run_cv ho Try.underlying3 Try.underlying5 hx]
  have e : IntKind.u8.wrap n = n := by simp only [IntKind.wrap, IntKind.bits, IntKind.signed]; simp; omega
  rw [e]
def rdRqA (b : List (BitVec 8)) (s : Nat × Int) : (Nat × Int) × MRq :=
  let r1 := nM b 255 s
  let r2 := nM b 1099511627776 r1.1
  let r3 := nM b 1099511627776 r2.1
  let r4 := byM b r3.1
  let r5 := byM b r4.1
  let r6 := byM b r5.1
  let r7 := lsM b r6.1
  let r8 := kM 32 b r7.1
  let r9 := pkM b r8.1
  let r10 := kM 64 b r9.1
  let r11 := psM b r10.1
  let r12 := nM b 1099511627776 r11.1
  let r13 := itsM b r12.1
  (r13.1, (⟨r1.2, r2.2, r3.2, r4.2, r5.2, r6.2, r7.2, r8.2, r9.2, r10.2, r11.2, r12.2, r13.2⟩ : MRq))
def rdRq (b : List (BitVec 8)) : MRq × Int :=
  let r := rdRqA (beginM b).1 (0, (beginM b).2)
  if endM (beginM b).1.length r.1.1 r.1.2 = 0 then (r.2, 0) else (zRq, endM (beginM b).1.length r.1.1 r.1.2)
def rdAcA (b : List (BitVec 8)) (s : Nat × Int) : (Nat × Int) × MAc :=
  let r1 := nM b 1099511627776 s
  let r2 := byM b r1.1
  let r3 := nM b 1099511627776 r2.1
  let r4 := nM b 1099511627776 r3.1
  let r5 := lsM b r4.1
  let r6 := slsM b r5.1
  let r7 := tkM b r6.1
  (r7.1, (⟨r1.2, r2.2, r3.2, r4.2, r5.2, r6.2, r7.2⟩ : MAc))
def rdAc (b : List (BitVec 8)) : MAc × Int :=
  let r := rdAcA (beginM b).1 (0, (beginM b).2)
  if endM (beginM b).1.length r.1.1 r.1.2 = 0 then (r.2, 0) else (zAc, endM (beginM b).1.length r.1.1 r.1.2)
end Go.Proofs.Ytgioojahadlmhaa
namespace Go.Proofs.Ytgioojahadlmhaa
open Go.RowKit
set_option maxRecDepth 20000
attribute [local irreducible] wpList

theorem cat_belowA (w : World) (vs : Array Value) (t : TypeId) : Below w.heap.size w (w.alloc (.cells vs t)) := (Below.refl _ _).alloc (Nat.le_refl _) _
def buB (m : MBu) : List (BitVec 8) := viB m.acc ++ viB m.dev ++ m.ident ++ m.key ++ pkB m.signed ++ m.sig ++ psB m.ones m.ones.length
structure MBu.Ok (m : MBu) : Prop where
  ident : m.ident.length = 32
  key : m.key.length = 32
  signed : m.signed.key.length = 32
  sig : m.sig.length = 64
  ones : ∀ p ∈ m.ones, p.key.length = 32
  many : m.ones.length ≤ 60000
/-- What a slice of prekeys reads, as cells. -/
theorem lz_of {a : Option Addr} {c : Nat} {l : List MPk} {V : World} (h : SlR 33 pkAt l a c V) : Lz 33 a (l.map pkC) c V := by
  obtain ⟨h1, css, h2, h3, h4, h5⟩ := h
  have e : css = l.map pkC := by
    apply List.ext_getElem?
    intro i
    rcases Nat.lt_or_ge i l.length with hi | hi
    · rw [List.getElem?_map, List.getElem?_eq_getElem hi, List.getElem?_eq_getElem (by rw [h2]; exact hi)]
      exact congrArg some (h4 i _ _ (List.getElem?_eq_getElem hi) (List.getElem?_eq_getElem (by rw [h2]; exact hi)))
    · rw [List.getElem?_eq_none (by omega), List.getElem?_eq_none (by rw [List.length_map]; exact hi)]
  subst e
  refine ⟨by rw [List.length_map]; exact h1, h3, fun hne => ?_⟩
  exact h5 (fun hn => hne (by rw [hn]; rfl))
theorem enters_bundle10 : Enters 31 := enters_of Try.func31 (by kernel_rfl) rfl
set_option maxHeartbeats 16000000 in
theorem bundle10_any (m : MBu) (X : List Value) (w : World) (hm : m.Ok) (hX : Fro 0 (buAt m X) w) : Calls Try.prog 31 #[.agg X.toArray] w fun x w' => ∃ v', x = .returned v' ∧ S5 w v' (buB m) w' := by
  obtain ⟨a0, c0, hq, -⟩ := hX.now
  have HF : Fro 0 (SlR 33 pkAt m.ones a0 c0) w := fun V hV => by
    obtain ⟨a1, c1, h1, h2⟩ := hX V hV
    rw [hq] at h1
    have h3 : (_ : List Value)[163]? = (_ : List Value)[163]? := congrArg (fun l : List Value => l[163]?) h1
    rw [buR_One (by rw [List.length_map, hm.ident]) (by rw [List.length_map, hm.key]) (pkC_len' hm.signed) (by rw [List.length_map, hm.sig]), buR_One (by rw [List.length_map, hm.ident]) (by rw [List.length_map, hm.key]) (pkC_len' hm.signed) (by rw [List.length_map, hm.sig])] at h3
    simp only [Option.some.injEq, Value.slice.injEq] at h3
    obtain ⟨rfl, _, rfl⟩ := h3
    exact h2
  subst hq
  clear hX
  have EO : Hid (buB m = viB m.acc ++ viB m.dev ++ m.ident ++ m.key ++ pkB m.signed ++ m.sig ++ psB m.ones m.ones.length) := Lib.hid rfl
  obtain ⟨k1, k2, k3, k4, k5, k6⟩ := hm
  have E := Lib.hid (Ev.start (w := w) (F := SlR 33 pkAt m.ones a0 c0) HF)
  have b1 := viB_len m.acc
  have b2 := viB_len m.dev
  have b3 := pkB_len k3
  have b4 := psB_len k5 m.ones.length
  have CP : Hid (∀ u : World, SlR 33 pkAt m.ones a0 c0 u → Calls Try.prog 64 #[.slice a0 m.ones.length c0] u fun e w' => ∃ v', e = .returned v' ∧ S5 u v' (psB m.ones m.ones.length) w') := Lib.hid fun u h => prekeys10_any a0 c0 m.ones u k5 k6 (lz_of h)
  have CK : Hid (∀ u : World, Calls Try.prog 63 #[.agg (pkC m.signed).toArray] u fun e w' => ∃ v', e = .returned v' ∧ S5 u v' (pkB m.signed) w') := Lib.hid fun u => prekey10_any m.signed u k3
  generalize buB m = out at *
  clear HF
  go_enter Try.func31, Try.ntmps31
  go_upto_region 0 with fail; refine wp_region_lit ?_
  refine wpList_val (run_boxL8 (vs := buR (.int .i64 m.acc) (.int .i64 m.dev) (m.ident.map b8) (m.key.map b8) (pkC m.signed) (m.sig.map b8) (.slice a0 m.ones.length c0)) rfl rfl) rfl ?_; (try simp only [Act.put, List.setIfInBounds_toArray, List.set_cons_zero, List.set_cons_succ])
  replace E := Lib.hid (E.out.new (buR (.int .i64 m.acc) (.int .i64 m.dev) (m.ident.map b8) (m.key.map b8) (pkC m.signed) (m.sig.map b8) (.slice a0 m.ones.length c0)) 72)
  generalize w.alloc (.cells (buR (.int .i64 m.acc) (.int .i64 m.dev) (m.ident.map b8) (m.key.map b8) (pkC m.signed) (m.sig.map b8) (.slice a0 m.ones.length c0)).toArray 72) = a1 at *
  generalize w.heap.size = g2 at *
  refine wpList_val (run_asg (v := .slice none 0 0) rfl rfl) rfl ?_; (try simp only [Act.put, List.setIfInBounds_toArray, List.set_cons_zero, List.set_cons_succ])
  refine wpList_end ?_
  go_upto_region 1 with fail
  refine wp_region_noPanic ?_; refine wp_region_late (S := fun _ V => Below a1.heap.size a1 V) (by kernel_rfl) ((Below.refl _ _).drew) (fun hS => ?_)
  have E0 := E
  replace E := Lib.hid (E.out.below hS)
  generalize a1.drew = a3 at *
  refine wpAnyL_take 0 rfl rfl (by kernel_rfl) (by kernel_rfl) (by kernel_rfl) (fun _ _ _ h => h) rfl (fun V hV => run_fad (s := 0) (k := 0) rfl Try.underlying72 rfl (by kernel_rfl) rfl rfl) hS ?_; (try simp only [Act.put, List.setIfInBounds_toArray, List.set_cons_zero, List.set_cons_succ])
  refine wpAnyL_take 1 rfl rfl (by kernel_rfl) (by kernel_rfl) (by kernel_rfl) (fun _ _ _ h => h) rfl (fun V hV => run_ldc rfl Try.underlying3 rfl rfl (((E0.out.below hV).get (i := 0) rfl).c 0 _ (buR_Account ))) hS ?_; (try simp only [Act.put, List.setIfInBounds_toArray, List.set_cons_zero, List.set_cons_succ])
  refine wpAnyL_take 3 rfl rfl (by kernel_rfl) (by kernel_rfl) (by kernel_rfl) (fun _ _ _ h => h) rfl (fun V hV => run_fad (s := 0) (k := 1) rfl Try.underlying72 rfl (by kernel_rfl) rfl rfl) hS ?_; (try simp only [Act.put, List.setIfInBounds_toArray, List.set_cons_zero, List.set_cons_succ])
  refine wpAnyL_take 4 rfl rfl (by kernel_rfl) (by kernel_rfl) (by kernel_rfl) (fun _ _ _ h => h) rfl (fun V hV => run_ldc rfl Try.underlying3 rfl rfl (((E0.out.below hV).get (i := 0) rfl).c 1 _ (buR_Device ))) hS ?_; (try simp only [Act.put, List.setIfInBounds_toArray, List.set_cons_zero, List.set_cons_succ])
  refine wpAnyL_take 6 rfl rfl (by kernel_rfl) (by kernel_rfl) (by kernel_rfl) (fun _ _ _ h => h) rfl (fun V hV => run_fad (s := 31) (k := 2) rfl Try.underlying72 rfl (by kernel_rfl) rfl rfl) hS ?_; (try simp only [Act.put, List.setIfInBounds_toArray, List.set_cons_zero, List.set_cons_succ])
  refine wpAnyL_take 7 rfl rfl (by kernel_rfl) (by kernel_rfl) (by kernel_rfl) (fun _ _ _ h => h) rfl (fun V hV => run_ldM (vs := m.ident.map b8) rfl Try.underlying35 rfl (szR (by rw [List.length_map, k1]) (by kernel_rfl)) rfl (((E0.out.below hV).get (i := 0) rfl).seg (buR_Ident (by rw [List.length_map, k1])))) hS ?_; (try simp only [Act.put, List.setIfInBounds_toArray, List.set_cons_zero, List.set_cons_succ])
  refine wpAnyL_take 9 rfl rfl (by kernel_rfl) (by kernel_rfl) (by kernel_rfl) (fun _ _ _ h => h) rfl (fun V hV => run_fad (s := 31) (k := 34) rfl Try.underlying72 rfl (by kernel_rfl) rfl rfl) hS ?_; (try simp only [Act.put, List.setIfInBounds_toArray, List.set_cons_zero, List.set_cons_succ])
  refine wpAnyL_take 10 rfl rfl (by kernel_rfl) (by kernel_rfl) (by kernel_rfl) (fun _ _ _ h => h) rfl (fun V hV => run_ldM (vs := m.key.map b8) rfl Try.underlying35 rfl (szR (by rw [List.length_map, k2]) (by kernel_rfl)) rfl (((E0.out.below hV).get (i := 0) rfl).seg (buR_Key (by rw [List.length_map, k1]) (by rw [List.length_map, k2])))) hS ?_; (try simp only [Act.put, List.setIfInBounds_toArray, List.set_cons_zero, List.set_cons_succ])
  refine wpAnyL_take 12 rfl rfl (by kernel_rfl) (by kernel_rfl) (by kernel_rfl) (fun _ _ _ h => h) rfl (fun V hV => run_fad (s := 32) (k := 66) rfl Try.underlying72 rfl (by kernel_rfl) rfl rfl) hS ?_; (try simp only [Act.put, List.setIfInBounds_toArray, List.set_cons_zero, List.set_cons_succ])
  refine wpAnyL_take 13 rfl rfl (by kernel_rfl) (by kernel_rfl) (by kernel_rfl) (fun _ _ _ h => h) rfl (fun V hV => run_ldM (vs := pkC m.signed) rfl Try.underlying42 rfl (szR (pkC_len' k3) (by kernel_rfl)) rfl (((E0.out.below hV).get (i := 0) rfl).seg (buR_Signed (by rw [List.length_map, k1]) (by rw [List.length_map, k2]) (pkC_len' k3)))) hS ?_; (try simp only [Act.put, List.setIfInBounds_toArray, List.set_cons_zero, List.set_cons_succ])
  refine wpAnyL_take 15 rfl rfl (by kernel_rfl) (by kernel_rfl) (by kernel_rfl) (fun _ _ _ h => h) rfl (fun V hV => run_fad (s := 63) (k := 99) rfl Try.underlying72 rfl (by kernel_rfl) rfl rfl) hS ?_; (try simp only [Act.put, List.setIfInBounds_toArray, List.set_cons_zero, List.set_cons_succ])
  refine wpAnyL_take 16 rfl rfl (by kernel_rfl) (by kernel_rfl) (by kernel_rfl) (fun _ _ _ h => h) rfl (fun V hV => run_ldM (vs := m.sig.map b8) rfl Try.underlying38 rfl (szR (by rw [List.length_map, k4]) (by kernel_rfl)) rfl (((E0.out.below hV).get (i := 0) rfl).seg (buR_Sig (by rw [List.length_map, k1]) (by rw [List.length_map, k2]) (pkC_len' k3) (by rw [List.length_map, k4])))) hS ?_; (try simp only [Act.put, List.setIfInBounds_toArray, List.set_cons_zero, List.set_cons_succ])
  refine wpAnyL_take 18 rfl rfl (by kernel_rfl) (by kernel_rfl) (by kernel_rfl) (fun _ _ _ h => h) rfl (fun V hV => run_fad (s := 0) (k := 163) rfl Try.underlying72 rfl (by kernel_rfl) rfl rfl) hS ?_; (try simp only [Act.put, List.setIfInBounds_toArray, List.set_cons_zero, List.set_cons_succ])
  refine wpAnyL_take 19 rfl rfl (by kernel_rfl) (by kernel_rfl) (by kernel_rfl) (fun _ _ _ h => h) rfl (fun V hV => run_ldc rfl Try.underlying43 rfl rfl (((E0.out.below hV).get (i := 0) rfl).c 163 _ (buR_One (by rw [List.length_map, k1]) (by rw [List.length_map, k2]) (pkC_len' k3) (by rw [List.length_map, k4])))) hS ?_; (try simp only [Act.put, List.setIfInBounds_toArray, List.set_cons_zero, List.set_cons_succ])
  refine wpAnyL_call 2 (by kernel_rfl) rfl rfl rfl (run_call1 enters_number10 rfl rfl rfl) (number10_any m.acc _) (fun v w h => hS.trans (h.bl.mono hS.size)) (fun v5 a4 hR => ?_); (try simp only [Act.put, List.setIfInBounds_toArray, List.set_cons_zero, List.set_cons_succ])
  have hb9 := hR.bl
  replace hS := hS.trans (hb9.mono hS.size)
  have hs9 := hR.sl
  obtain ⟨xa6, xc7, rfl, -, -⟩ := id hs9
  replace E := Lib.hid (E.out.call hb9 (fro_sl hR.O))
  clear hb9 hR hs9
  refine wpAnyL_call 5 (by kernel_rfl) rfl rfl rfl (run_call1 enters_number10 rfl rfl rfl) (number10_any m.dev _) (fun v w h => hS.trans (h.bl.mono hS.size)) (fun v9 a8 hR => ?_); (try simp only [Act.put, List.setIfInBounds_toArray, List.set_cons_zero, List.set_cons_succ])
  have hb9 := hR.bl
  replace hS := hS.trans (hb9.mono hS.size)
  have hs9 := hR.sl
  obtain ⟨xa10, xc11, rfl, -, -⟩ := id hs9
  replace E := Lib.hid (E.out.call hb9 (fro_sl hR.O))
  clear hb9 hR hs9
  refine wpAnyL_call 8 (by kernel_rfl) rfl rfl rfl (run_call1 enters_key10 rfl rfl rfl) (key10_any m.ident _ k1) (fun v w h => hS.trans (h.bl.mono hS.size)) (fun v13 a12 hR => ?_); (try simp only [Act.put, List.setIfInBounds_toArray, List.set_cons_zero, List.set_cons_succ])
  have hb9 := hR.bl
  replace hS := hS.trans (hb9.mono hS.size)
  have hs9 := hR.sl
  obtain ⟨xa14, xc15, rfl, -, -⟩ := id hs9
  replace E := Lib.hid (E.out.call hb9 (fro_sl hR.O))
  clear hb9 hR hs9
  refine wpAnyL_call 11 (by kernel_rfl) rfl rfl rfl (run_call1 enters_key10 rfl rfl rfl) (key10_any m.key _ k2) (fun v w h => hS.trans (h.bl.mono hS.size)) (fun v17 a16 hR => ?_); (try simp only [Act.put, List.setIfInBounds_toArray, List.set_cons_zero, List.set_cons_succ])
  have hb9 := hR.bl
  replace hS := hS.trans (hb9.mono hS.size)
  have hs9 := hR.sl
  obtain ⟨xa18, xc19, rfl, -, -⟩ := id hs9
  replace E := Lib.hid (E.out.call hb9 (fro_sl hR.O))
  clear hb9 hR hs9
  refine wpAnyL_call 14 (by kernel_rfl) rfl rfl rfl (run_call1 enters_prekey10 rfl rfl rfl) (CK.out _) (fun v w h => hS.trans (h.bl.mono hS.size)) (fun v21 a20 hR => ?_); (try simp only [Act.put, List.setIfInBounds_toArray, List.set_cons_zero, List.set_cons_succ])
  have hb9 := hR.bl
  replace hS := hS.trans (hb9.mono hS.size)
  have hs9 := hR.sl
  obtain ⟨xa22, xc23, rfl, -, -⟩ := id hs9
  replace E := Lib.hid (E.out.call hb9 (fro_sl hR.O))
  clear hb9 hR hs9
  refine wpAnyL_call 17 (by kernel_rfl) rfl rfl rfl (run_call1 enters_sig10 rfl rfl rfl) (sig10_any m.sig _ k4) (fun v w h => hS.trans (h.bl.mono hS.size)) (fun v25 a24 hR => ?_); (try simp only [Act.put, List.setIfInBounds_toArray, List.set_cons_zero, List.set_cons_succ])
  have hb9 := hR.bl
  replace hS := hS.trans (hb9.mono hS.size)
  have hs9 := hR.sl
  obtain ⟨xa26, xc27, rfl, -, -⟩ := id hs9
  replace E := Lib.hid (E.out.call hb9 (fro_sl hR.O))
  clear hb9 hR hs9
  refine wpAnyL_call 20 (by kernel_rfl) rfl rfl rfl (run_call1 enters_prekeys10 rfl rfl rfl) (CP.out _ E.out.f) (fun v w h => hS.trans (h.bl.mono hS.size)) (fun v29 a28 hR => ?_); (try simp only [Act.put, List.setIfInBounds_toArray, List.set_cons_zero, List.set_cons_succ])
  have hb9 := hR.bl
  replace hS := hS.trans (hb9.mono hS.size)
  have hs9 := hR.sl
  obtain ⟨xa30, xc31, rfl, -, -⟩ := id hs9
  replace E := Lib.hid (E.out.call hb9 (fro_sl hR.O))
  clear hb9 hR hs9
  have HC : Hid (Cat a28.heap.size [.slice xa6 (viB m.acc).length xc7, .slice xa10 (viB m.dev).length xc11, .slice xa14 (m.ident).length xc15, .slice xa18 (m.key).length xc19, .slice xa22 (pkB m.signed).length xc23, .slice xa26 (m.sig).length xc27, .slice xa30 (psB m.ones m.ones.length).length xc31] [viB m.acc, viB m.dev, m.ident, m.key, pkB m.signed, m.sig, psB m.ones m.ones.length] (a28.alloc (.cells #[.slice xa6 (viB m.acc).length xc7, .slice xa10 (viB m.dev).length xc11, .slice xa14 (m.ident).length xc15, .slice xa18 (m.key).length xc19, .slice xa22 (pkB m.signed).length xc23, .slice xa26 (m.sig).length xc27, .slice xa30 (psB m.ones m.ones.length).length xc31] 22))) := Lib.hid (cat_row a28 _ [viB m.acc, viB m.dev, m.ident, m.key, pkB m.signed, m.sig, psB m.ones m.ones.length] fun i hi => match i, hi with
    | 0, _ => ⟨_, rfl, E.out.h.2.2.2.2.2.2.1⟩
    | 1, _ => ⟨_, rfl, E.out.h.2.2.2.2.2.1⟩
    | 2, _ => ⟨_, rfl, E.out.h.2.2.2.2.1⟩
    | 3, _ => ⟨_, rfl, E.out.h.2.2.2.1⟩
    | 4, _ => ⟨_, rfl, E.out.h.2.2.1⟩
    | 5, _ => ⟨_, rfl, E.out.h.2.1⟩
    | 6, _ => ⟨_, rfl, E.out.h.1⟩
    | i + 7, hi => absurd hi (by simp))
  refine wpAnyL_val 21 (by kernel_rfl) rfl rfl rfl (run_bsl (cells := #[.slice xa6 (viB m.acc).length xc7, .slice xa10 (viB m.dev).length xc11, .slice xa14 (m.ident).length xc15, .slice xa18 (m.key).length xc19, .slice xa22 (pkB m.signed).length xc23, .slice xa26 (m.sig).length xc27, .slice xa30 (psB m.ones m.ones.length).length xc31]) (z := .slice none 0 0) rfl Try.underlying122 (by kernel_rfl) (by omega) (by omega) (by kernel_rfl)) (hS.alloc hS.size _) ?_; (try simp only [Act.put, List.setIfInBounds_toArray, List.set_cons_zero, List.set_cons_succ])
  replace E := Lib.hid (E.out.below (cat_belowA a28 #[.slice xa6 (viB m.acc).length xc7, .slice xa10 (viB m.dev).length xc11, .slice xa14 (m.ident).length xc15, .slice xa18 (m.key).length xc19, .slice xa22 (pkB m.signed).length xc23, .slice xa26 (m.sig).length xc27, .slice xa30 (psB m.ones m.ones.length).length xc31] 22))
  replace hS := hS.alloc hS.size (.cells #[.slice xa6 (viB m.acc).length xc7, .slice xa10 (viB m.dev).length xc11, .slice xa14 (m.ident).length xc15, .slice xa18 (m.key).length xc19, .slice xa22 (pkB m.signed).length xc23, .slice xa26 (m.sig).length xc27, .slice xa30 (psB m.ones m.ones.length).length xc31] 22)
  generalize a28.alloc (.cells #[.slice xa6 (viB m.acc).length xc7, .slice xa10 (viB m.dev).length xc11, .slice xa14 (m.ident).length xc15, .slice xa18 (m.key).length xc19, .slice xa22 (pkB m.signed).length xc23, .slice xa26 (m.sig).length xc27, .slice xa30 (psB m.ones m.ones.length).length xc31] 22) = a32 at *
  generalize a28.heap.size = g33 at *
  refine wpAnyL_call 22 (by kernel_rfl) rfl rfl rfl (run_call1 enters_all10 rfl rfl rfl) (all10_any g33 _ [viB m.acc, viB m.dev, m.ident, m.key, pkB m.signed, m.sig, psB m.ones m.ones.length] 7 _ HC.out rfl (by omega) (by simp only [List.flatten_cons, List.flatten_nil, List.length_append, List.length_nil]; omega)) (fun v w h => hS.trans (h.bl.mono hS.size)) (fun VL a34 hR => ?_); (try simp only [Act.put, List.setIfInBounds_toArray, List.set_cons_zero, List.set_cons_succ])
  have HL := Lib.hid (hR.mono E.out.bl)
  replace hS := hS.trans (hR.bl.mono hS.size)
  replace E := Lib.hid (E.out.below hR.bl)
  clear hR HC
  refine wpAnyL_take 23 rfl rfl (by kernel_rfl) (by kernel_rfl) (by kernel_rfl) (fun _ _ _ h => h) rfl (fun V hV => run_asg (v := VL) rfl rfl) hS ?_; (try simp only [Act.put, List.setIfInBounds_toArray, List.set_cons_zero, List.set_cons_succ])
  refine wpAnyL_done (by kernel_rfl) ?_ _; refine NoPanic.normal ?_
  have hI : Hid (S5 w VL out a34) := Lib.hid (by
    have h := HL.out
    rw [EO.out]
    simpa using h)
  go_wp2_with fail
  exact bodyPost_ret (results_tmp Try.results31 _ _ _) rfl ⟨_, rfl, hI.out⟩
end Go.Proofs.Ytgioojahadlmhaa
namespace Go.Proofs.Ytgioojahadlmhaa
open Go.RowKit
set_option maxRecDepth 20000
attribute [local irreducible] wpList

/-- A thing of a slice, in every world that has the old memory. -/
theorem slR_get {α : Type} {z : Nat} {Rr : α → List Value → World → Prop} {l : List α} {a : Option Addr} {c : Nat} {w : World} (h : Fro 0 (SlR z Rr l a c) w) {i : Nat} (hi : i < l.length) : ∃ g f cs, a = some ⟨g, f, none⟩ ∧ g < w.heap.size ∧ cs.length = z ∧ w.rangeAt g (f + i * z) cs ∧ Fro 0 (Rr l[i] cs) w := by
  have one : ∀ V, SlR z Rr l a c V → ∃ g f cs, a = some ⟨g, f, none⟩ ∧ g < V.heap.size ∧ cs.length = z ∧ V.rangeAt g (f + i * z) cs ∧ Rr l[i] cs V := fun V hV => by
    obtain ⟨h1, css, h2, h3, h4, h5⟩ := hV
    obtain ⟨g, f, h6, h7, h8⟩ := h5 (fun hn => by rw [hn] at hi; cases hi)
    have hic : i < css.length := by rw [h2]; exact hi
    refine ⟨g, f, css[i], h6, h7, h3 _ (List.getElem_mem hic), ?_, h4 i _ _ (List.getElem?_eq_getElem hi) (List.getElem?_eq_getElem hic)⟩
    have e1 : css = css.take i ++ (css[i] :: css.drop (i + 1)) := by rw [← List.drop_eq_getElem_cons hic, List.take_append_drop]
    have hl : ((css.take i).flatten).length = i * z := by
      rw [flat_len (fun x hx => h3 x (List.mem_of_mem_take hx)), List.length_take, Nat.min_eq_left (by omega)]
    have e2 : css.flatten = (css.take i).flatten ++ (css[i] ++ (css.drop (i + 1)).flatten) := by
      conv => lhs; rw [e1]
      rw [List.flatten_append, List.flatten_cons]
    rw [e2] at h8
    have h9 := rangeAt_drop (k := (css.take i).flatten.length) h8
    rw [List.drop_left' rfl, hl] at h9
    have h10 := rangeAt_take (k := css[i].length) h9
    rwa [List.take_left' rfl] at h10
  obtain ⟨g, f, cs, h1, h2, h3, h4, _⟩ := one w h.now
  refine ⟨g, f, cs, h1, h2, h3, h4, fun V hV => ?_⟩
  obtain ⟨g2, f2, cs2, k1, k2, k3, k4, k5⟩ := one V (h V hV)
  rw [h1] at k1
  simp only [Option.some.injEq, Addr.mk.injEq] at k1
  obtain ⟨rfl, rfl, _⟩ := k1
  have e : cs = cs2 := by
    apply List.ext_getElem?
    intro j
    rcases Nat.lt_or_ge j z with hj | hj
    · have q1 := h4 j _ (List.getElem?_eq_getElem (by omega))
      have q2 := k4 j _ (List.getElem?_eq_getElem (by omega))
      rw [World.cell?_of_block (a := ⟨g, f + i * z + j, none⟩) (hV.block g (Nat.zero_le _) h2 (by simp)), q1] at q2
      rw [List.getElem?_eq_getElem (by omega), List.getElem?_eq_getElem (by omega)]
      exact q2
    · rw [List.getElem?_eq_none (by omega), List.getElem?_eq_none (by omega)]
  rw [e]; exact k5
def evsB (ms : List MEv) (i : Nat) : List (BitVec 8) := viB (ms.length : Int) ++ (ms.take i).flatMap evB
theorem evsB_succ {ms : List MEv} {i : Nat} (h : i < ms.length) : evsB ms (i + 1) = evsB ms i ++ evB ms[i] := by
  unfold evsB
  rw [List.take_succ_eq_append_getElem h, List.flatMap_append]
  simp
theorem evsB_le (ms : List MEv) : ∀ k i, i + k = ms.length → (evsB ms i).length ≤ (evsB ms ms.length).length
  | 0, i, h => by rw [show i = ms.length by omega]; exact Nat.le_refl _
  | k + 1, i, h => Nat.le_trans (by rw [evsB_succ (show i < ms.length by omega), List.length_append]; omega) (evsB_le ms k (i + 1) (by omega))
theorem enters_envelopes10 : Enters 69 := enters_of Try.func69 (by kernel_rfl) rfl
set_option maxHeartbeats 8000000 in
theorem envelopes10_any (a : Option Addr) (c : Nat) (ms : List MEv) (w : World) (hp : ∀ p ∈ ms, p.Ok) (hT : (evsB ms ms.length).length ≤ 8000000) (hl : ms.length ≤ 60000) (hv : Fro 0 (SlR 72 evAt ms a c) w) : Calls Try.prog 69 #[.slice a ms.length c] w fun e w' => ∃ v', e = .returned v' ∧ S5 w v' (evsB ms ms.length) w' := by
  have HV := Lib.hid hv; clear hv
  have CN : Hid (∀ u : World, Calls Try.prog 58 #[.int .i64 (ms.length : Int)] u fun e w' => ∃ v', e = .returned v' ∧ S5 u v' (evsB ms 0) w') := Lib.hid fun u => by
    have h := number10_any (ms.length : Int) u
    simpa [evsB] using h
  have HE : Hid (∀ i, i < ms.length → ∃ g f k out, a = some ⟨g, f, none⟩ ∧ evsB ms (i + 1) = evsB ms i ++ out ∧ (evsB ms i).length + out.length ≤ 8000000 ∧ (Try.prog.info? 64).map (·.size) = some (k : List Value).length ∧ (∀ u, Below w.heap.size w u → u.rangeAt g (f + i * 72) k) ∧ (∀ u : World, Below w.heap.size w u → Calls Try.prog 24 #[.agg k.toArray] u fun e w' => ∃ v', e = .returned v' ∧ S5 u v' out w')) := Lib.hid fun i hi => by
    obtain ⟨g, f, cs, h1, h2, h3, h4, h5⟩ := slR_get HV.out hi
    have hk := hp _ (List.getElem_mem hi)
    have hle := evsB_le ms (ms.length - (i + 1)) (i + 1) (by omega)
    rw [evsB_succ hi, List.length_append] at hle
    refine ⟨g, f, cs, evB ms[i], h1, evsB_succ hi, by omega, evR_sz h3, fun u hu => rangeAt_below h4 h2 hu, fun u hu => ?_⟩
    obtain ⟨a1, c1, rfl, hs⟩ := h5 u (Ext.of_below hu)
    exact envelope10_any _ _ u hk hs
  have HL : Hid (∀ i, i ≤ ms.length → (evsB ms i).length ≤ 8000000) := Lib.hid fun i hi => Nat.le_trans (evsB_le ms (ms.length - i) i (by omega)) hT
  obtain ⟨F, hF⟩ : ∃ F, F = evsB ms := ⟨_, rfl⟩
  rw [← hF] at CN HE HL ⊢
  clear hF HV hp hT
  generalize ms.length = n at *
  go_enter Try.func69, Try.ntmps69
  go_upto_region 0 with fail; refine wp_region_lit ?_
  refine wpList_val (run_asg (v := .slice none 0 0) rfl rfl) rfl ?_; (try simp only [Act.put, List.setIfInBounds_toArray, List.set_cons_zero, List.set_cons_succ])
  refine wpList_end ?_
  go_upto_region 1 with fail; refine wp_region_lit ?_
  refine wpList_val (run_mv (v := .slice a n c) rfl rfl) rfl ?_; (try simp only [Act.put, List.setIfInBounds_toArray, List.set_cons_zero, List.set_cons_succ])
  refine wpList_val (run_len rfl Try.underlying73 rfl) rfl ?_; (try simp only [Act.put, List.setIfInBounds_toArray, List.set_cons_zero, List.set_cons_succ])
  refine wpList_callR (run_call1 enters_number10 rfl rfl rfl) rfl (CN.out _) (fun v1 a1 hR => ?_); (try simp only [Act.put, List.setIfInBounds_toArray, List.set_cons_zero, List.set_cons_succ])
  have hI := Lib.hid hR
  clear hR
  refine wpList_val (run_asg (v := v1) rfl rfl) rfl ?_; (try simp only [Act.put, List.setIfInBounds_toArray, List.set_cons_zero, List.set_cons_succ])
  refine wpList_end ?_
  go_upto_region 2 with fail; refine wp_region_lit ?_
  refine wpList_val (run_asg (v := .int .i64 0) rfl rfl) rfl ?_; (try simp only [Act.put, List.setIfInBounds_toArray, List.set_cons_zero, List.set_cons_succ])
  refine wpList_end ?_
  go_wp2_with fail
  go_loopw [3, 4] (fun s3 s4 u => ∃ i : Nat, i ≤ n ∧ s4 = .int .i64 (i : Int) ∧ S5 w s3 (F i) u) (fun _ s4 _ => (n - intOf s4).toNat)
  case atStart => exact ⟨0, by omega, rfl, hI.out⟩
  case round =>
    obtain ⟨i, hi, rfl, hJ⟩ := hrel
    replace hI := Lib.hid hJ
    clear hJ
    go_upto_region 3 with fail; refine wp_region_lit ?_
    refine wpList_val (run_mv (v := .int _ _) rfl rfl) rfl ?_; (try simp only [Act.put, List.setIfInBounds_toArray, List.set_cons_zero, List.set_cons_succ])
    refine wpList_val (run_mv (v := .slice a n c) rfl rfl) rfl ?_; (try simp only [Act.put, List.setIfInBounds_toArray, List.set_cons_zero, List.set_cons_succ])
    refine wpList_val (run_len rfl Try.underlying73 rfl) rfl ?_; (try simp only [Act.put, List.setIfInBounds_toArray, List.set_cons_zero, List.set_cons_succ])
    by_cases hik : i = n
    · subst hik
      refine wpList_val (run_lssb (c := false) rfl rfl rfl (decide_eq_false (by omega))) rfl ?_; (try simp only [Act.put, List.setIfInBounds_toArray, List.set_cons_zero, List.set_cons_succ])
      refine wpList_end ?_
      go_upto_region 6 with fail; refine wp_region_lit ?_
      refine wpList_val (run_mv (v := u3) rfl rfl) rfl ?_; (try simp only [Act.put, List.setIfInBounds_toArray, List.set_cons_zero, List.set_cons_succ])
      refine wpList_val (run_asg (v := u3) rfl rfl) rfl ?_; (try simp only [Act.put, List.setIfInBounds_toArray, List.set_cons_zero, List.set_cons_succ])
      refine wpList_end ?_
      go_wp2_with fail
      exact bodyPost_ret (results_tmp Try.results69 _ _ _) rfl ⟨_, rfl, hI.out⟩
    · refine wpList_val (run_lssb (c := true) rfl rfl rfl (decide_eq_true (by omega))) rfl ?_; (try simp only [Act.put, List.setIfInBounds_toArray, List.set_cons_zero, List.set_cons_succ])
      refine wpList_end ?_
      obtain ⟨g, f, k, out, rfl, x2, x3, x4, x5, x6⟩ := HE.out i (by omega)
      have X2 := Lib.hid x2
      have X4 := Lib.hid x4
      have X5 := Lib.hid x5
      have X6 := Lib.hid x6
      have hfl := HL.out i (by omega)
      clear x2 x4 x5 x6
      have HI := Lib.hid hI.out.sl
      have bl := hI.out.bl
      clear hI
      generalize hFi : F i = Fi at *
      clear hFi
      obtain ⟨y1, c1, hy, -, -⟩ := id HI.out
      subst hy
      go_upto_region 5 with fail; refine wp_region_lit ?_
      refine wpList_val (run_mv (v := .slice y1 Fi.length c1) rfl rfl) rfl ?_; (try simp only [Act.put, List.setIfInBounds_toArray, List.set_cons_zero, List.set_cons_succ])
      refine wpList_val (run_mv (v := .slice (some ⟨g, f, none⟩) n c) rfl rfl) rfl ?_; (try simp only [Act.put, List.setIfInBounds_toArray, List.set_cons_zero, List.set_cons_succ])
      refine wpList_val (run_mv (v := .int .i64 (i : Int)) rfl rfl) rfl ?_; (try simp only [Act.put, List.setIfInBounds_toArray, List.set_cons_zero, List.set_cons_succ])
      refine wpList_val (run_ixZ (z := 72) (i := i) rfl Try.underlying73 (by kernel_rfl) rfl rfl (by omega)) rfl ?_; (try simp only [Act.put, List.setIfInBounds_toArray, List.set_cons_zero, List.set_cons_succ])
      refine wpList_val (run_ldM (vs := k) rfl Try.underlying64 rfl X4.out rfl (X5.out _ bl)) rfl ?_; (try simp only [Act.put, List.setIfInBounds_toArray, List.set_cons_zero, List.set_cons_succ])
      refine wpList_callR (run_call1 enters_envelope10 rfl rfl rfl) rfl (X6.out _ bl) (fun vb1 ub1 hR => ?_); (try simp only [Act.put, List.setIfInBounds_toArray, List.set_cons_zero, List.set_cons_succ])
      have hb := hR.bl
      have HB1 := Lib.hid hR.sl
      clear hR
      replace bl := bl.trans (hb.mono bl.size)
      replace HI := Lib.hid (HI.out.below hb)
      clear hb
      obtain ⟨xa1, xc1, rfl, -, -⟩ := id HB1.out
      have HC : Hid (Cat ub1.heap.size [.slice y1 Fi.length c1, .slice xa1 out.length xc1] [Fi, out] (ub1.alloc (.cells #[.slice y1 Fi.length c1, .slice xa1 out.length xc1] 22))) := Lib.hid (cat_row ub1 _ [Fi, out] fun i hi => match i, hi with
        | 0, _ => ⟨_, rfl, HI.out⟩
        | 1, _ => ⟨_, rfl, HB1.out⟩)
      have hb : Below ub1.heap.size ub1 (ub1.alloc (.cells #[.slice y1 Fi.length c1, .slice xa1 out.length xc1] 22)) := (Below.refl _ _).alloc (Nat.le_refl _) _
      refine wpList_val (run_bsl (cells := #[.slice y1 Fi.length c1, .slice xa1 out.length xc1]) (z := .slice none 0 0) rfl Try.underlying122 (by kernel_rfl) (by omega) (by omega) (by kernel_rfl)) rfl ?_; (try simp only [Act.put, List.setIfInBounds_toArray, List.set_cons_zero, List.set_cons_succ])
      replace bl := bl.trans (hb.mono bl.size)
      clear hb
      generalize ub1.alloc (.cells #[.slice y1 Fi.length c1, .slice xa1 out.length xc1] 22) = uc at *
      generalize ub1.heap.size = gc at *
      refine wpList_callR (run_call1 enters_all10 rfl rfl rfl) rfl (all10_any gc _ [Fi, out] 2 _ HC.out rfl (by omega) (by simp; omega)) (fun VL uz hR => ?_); (try simp only [Act.put, List.setIfInBounds_toArray, List.set_cons_zero, List.set_cons_succ])
      have HL2 := Lib.hid hR
      have hbu := bl
      replace bl := bl.trans (hR.bl.mono bl.size)
      clear hR
      refine wpList_val (run_asg (v := VL) rfl rfl) rfl ?_; (try simp only [Act.put, List.setIfInBounds_toArray, List.set_cons_zero, List.set_cons_succ])
      refine wpList_end ?_
      have hI2 : Hid (S5 w VL (F (i + 1)) uz) := Lib.hid (by
        have h := HL2.out.mono hbu
        rw [X2.out]
        simpa using h)
      clear HL2
      go_wp2_with fail
      go_roundw
      case rel => exact ⟨i + 1, by omega, by go_num, hI2.out⟩
      case measure => simp [intOf]; omega
end Go.Proofs.Ytgioojahadlmhaa
namespace Go.Proofs.Ytgioojahadlmhaa
open Go.RowKit
set_option maxRecDepth 20000
attribute [local irreducible] wpList

/-- The old memory stands. -/
def Since (w u : World) : Prop := Below w.heap.size w u
structure MLs.Ok (m : MLs) : Prop where
  ident : m.ident.length = 32
  sig : m.sig.length = 64
  devs : ∀ p ∈ m.devs, p.key.length = 32
  many : m.devs.length ≤ 60000
def lsF (m : MLs) (i : Nat) : List (BitVec 8) := viB m.acc ++ viB m.ver ++ m.ident ++ viB (m.devs.length : Int) ++ (m.devs.take i).flatMap pkB
def lsB (m : MLs) : List (BitVec 8) := lsF m m.devs.length ++ m.sig
theorem lsF_succ {m : MLs} {i : Nat} (h : i < m.devs.length) : lsF m (i + 1) = lsF m i ++ pkB m.devs[i] := by
  unfold lsF
  rw [List.take_succ_eq_append_getElem h, List.flatMap_append]
  simp
theorem lsF_len {m : MLs} (h : m.Ok) (i : Nat) (hi : i ≤ m.devs.length) : (lsF m i).length ≤ 50 + i * 38 := by
  induction i with
  | zero =>
    have h1 := viB_len m.acc
    have h2 := viB_len m.ver
    have h3 := viB_len (m.devs.length : Int)
    have h4 := h.ident
    simp only [lsF, List.take_zero, List.flatMap_nil, List.length_append, List.length_nil]
    omega
  | succ i ih =>
    rw [lsF_succ (by omega), List.length_append]
    have := pkB_len (h.devs _ (List.getElem_mem (show i < m.devs.length by omega)))
    have := ih (by omega)
    omega
theorem lsAt_fix {m : MLs} {X : List Value} {w : World} (hm : m.Ok) (h : Fro 0 (lsAt m X) w) : ∃ a c, X = lsR (.int .i64 m.acc) (.int .i64 m.ver) (m.ident.map b8) (.slice a m.devs.length c) (m.sig.map b8) ∧ Fro 0 (SlR 33 pkAt m.devs a c) w := by
  obtain ⟨a0, c0, hq, -⟩ := h.now
  refine ⟨a0, c0, hq, fun V hV => ?_⟩
  obtain ⟨a1, c1, h1, h2⟩ := h V hV
  rw [hq] at h1
  have h3 : (_ : List Value)[34]? = (_ : List Value)[34]? := congrArg (fun l : List Value => l[34]?) h1
  rw [lsR_Devices (by rw [List.length_map, hm.ident]), lsR_Devices (by rw [List.length_map, hm.ident])] at h3
  simp only [Option.some.injEq, Value.slice.injEq] at h3
  obtain ⟨rfl, _, rfl⟩ := h3
  exact h2
theorem enters_list10 : Enters 23 := enters_of Try.func23 (by kernel_rfl) rfl
set_option maxHeartbeats 16000000 in
theorem list10_any (m : MLs) (X : List Value) (w : World) (hm : m.Ok) (hX : Fro 0 (lsAt m X) w) : Calls Try.prog 23 #[.agg X.toArray] w fun x w' => ∃ v', x = .returned v' ∧ S5 w v' (lsB m) w' := by
  obtain ⟨a0, c0, rfl, HF⟩ := lsAt_fix hm hX
  clear hX
  have HE : Hid (∀ i, i < m.devs.length → ∃ g f nid k, a0 = some ⟨g, f, none⟩ ∧ lsF m (i + 1) = lsF m i ++ (viB nid ++ k) ∧ (k : List (BitVec 8)).length = 32 ∧ (∀ u, Since w u → u.cell? ⟨g, f + i * 33 + 0, none⟩ = some (.int .i64 nid)) ∧ (∀ u, Since w u → u.rangeAt g (f + i * 33 + 1) (k.map b8))) := Lib.hid fun i hi => by
    obtain ⟨g, f, cs, h1, h2, h3, h4, h5⟩ := slR_get HF hi
    have e : cs = pkC m.devs[i] := h5.now
    have hk := hm.devs _ (List.getElem_mem hi)
    subst e
    rw [pkC_row] at h4
    refine ⟨g, f, m.devs[i].id, m.devs[i].key, h1, lsF_succ hi, hk, fun u hu => ?_, fun u hu => ?_⟩
    · exact rangeAt_below h4 h2 hu 0 _ pkR_ID
    · have h6 := rangeAt_take (k := 32) (rangeAt_drop (k := 1) (rangeAt_below h4 h2 hu))
      rwa [pkR_Key (by rw [List.length_map, hk])] at h6
  have HL : Hid (∀ i, i ≤ m.devs.length → (lsF m i).length ≤ 50 + i * 38) := Lib.hid (lsF_len hm)
  have E0' : Hid (lsF m 0 = viB m.acc ++ viB m.ver ++ m.ident ++ viB ((m.devs.length : Nat) : Int)) := Lib.hid (by simp [lsF])
  have EO : Hid (lsB m = lsF m m.devs.length ++ m.sig) := Lib.hid rfl
  obtain ⟨k1, k2, k3, k4⟩ := hm
  have E := Lib.hid (Ev.start (w := w) (F := fun _ => True) fun _ _ => trivial)
  have b1 := viB_len m.acc
  have b2 := viB_len m.ver
  have b3 := viB_len ((m.devs.length : Nat) : Int)
  clear HF k3
  obtain ⟨Fl, hFl⟩ : ∃ Fl, Fl = lsF m := ⟨_, rfl⟩
  rw [← hFl] at HE HL E0' EO
  clear hFl
  generalize lsB m = out at *
  generalize m.devs.length = n at *
  go_enter Try.func23, Try.ntmps23
  go_upto_region 0 with fail; refine wp_region_lit ?_
  refine wpList_val (run_boxL8 (vs := lsR (.int .i64 m.acc) (.int .i64 m.ver) (m.ident.map b8) (.slice a0 n c0) (m.sig.map b8)) rfl rfl) rfl ?_; (try simp only [Act.put, List.setIfInBounds_toArray, List.set_cons_zero, List.set_cons_succ])
  replace E := Lib.hid (E.out.new (lsR (.int .i64 m.acc) (.int .i64 m.ver) (m.ident.map b8) (.slice a0 n c0) (m.sig.map b8)) 40)
  generalize w.alloc (.cells (lsR (.int .i64 m.acc) (.int .i64 m.ver) (m.ident.map b8) (.slice a0 n c0) (m.sig.map b8)).toArray 40) = a1 at *
  generalize w.heap.size = g2 at *
  refine wpList_val (run_asg (v := .slice none 0 0) rfl rfl) rfl ?_; (try simp only [Act.put, List.setIfInBounds_toArray, List.set_cons_zero, List.set_cons_succ])
  refine wpList_end ?_
  go_upto_region 1 with fail
  refine wp_region_noPanic ?_; refine wp_region_late (S := fun _ V => Below a1.heap.size a1 V) (by kernel_rfl) ((Below.refl _ _).drew) (fun hS => ?_)
  have E0 := E
  replace E := Lib.hid (E.out.below hS)
  generalize a1.drew = a3 at *
  refine wpAnyL_take 0 rfl rfl (by kernel_rfl) (by kernel_rfl) (by kernel_rfl) (fun _ _ _ h => h) rfl (fun V hV => run_fad (s := 0) (k := 0) rfl Try.underlying40 rfl (by kernel_rfl) rfl rfl) hS ?_; (try simp only [Act.put, List.setIfInBounds_toArray, List.set_cons_zero, List.set_cons_succ])
  refine wpAnyL_take 1 rfl rfl (by kernel_rfl) (by kernel_rfl) (by kernel_rfl) (fun _ _ _ h => h) rfl (fun V hV => run_ldc rfl Try.underlying3 rfl rfl (((E0.out.below hV).get (i := 0) rfl).c 0 _ (lsR_Account ))) hS ?_; (try simp only [Act.put, List.setIfInBounds_toArray, List.set_cons_zero, List.set_cons_succ])
  refine wpAnyL_take 3 rfl rfl (by kernel_rfl) (by kernel_rfl) (by kernel_rfl) (fun _ _ _ h => h) rfl (fun V hV => run_fad (s := 0) (k := 1) rfl Try.underlying40 rfl (by kernel_rfl) rfl rfl) hS ?_; (try simp only [Act.put, List.setIfInBounds_toArray, List.set_cons_zero, List.set_cons_succ])
  refine wpAnyL_take 4 rfl rfl (by kernel_rfl) (by kernel_rfl) (by kernel_rfl) (fun _ _ _ h => h) rfl (fun V hV => run_ldc rfl Try.underlying3 rfl rfl (((E0.out.below hV).get (i := 0) rfl).c 1 _ (lsR_Version ))) hS ?_; (try simp only [Act.put, List.setIfInBounds_toArray, List.set_cons_zero, List.set_cons_succ])
  refine wpAnyL_take 6 rfl rfl (by kernel_rfl) (by kernel_rfl) (by kernel_rfl) (fun _ _ _ h => h) rfl (fun V hV => run_fad (s := 31) (k := 2) rfl Try.underlying40 rfl (by kernel_rfl) rfl rfl) hS ?_; (try simp only [Act.put, List.setIfInBounds_toArray, List.set_cons_zero, List.set_cons_succ])
  refine wpAnyL_take 7 rfl rfl (by kernel_rfl) (by kernel_rfl) (by kernel_rfl) (fun _ _ _ h => h) rfl (fun V hV => run_ldM (vs := m.ident.map b8) rfl Try.underlying35 rfl (szR (by rw [List.length_map, k1]) (by kernel_rfl)) rfl (((E0.out.below hV).get (i := 0) rfl).seg (lsR_Ident (by rw [List.length_map, k1])))) hS ?_; (try simp only [Act.put, List.setIfInBounds_toArray, List.set_cons_zero, List.set_cons_succ])
  refine wpAnyL_take 9 rfl rfl (by kernel_rfl) (by kernel_rfl) (by kernel_rfl) (fun _ _ _ h => h) rfl (fun V hV => run_fad (s := 0) (k := 34) rfl Try.underlying40 rfl (by kernel_rfl) rfl rfl) hS ?_; (try simp only [Act.put, List.setIfInBounds_toArray, List.set_cons_zero, List.set_cons_succ])
  refine wpAnyL_take 10 rfl rfl (by kernel_rfl) (by kernel_rfl) (by kernel_rfl) (fun _ _ _ h => h) rfl (fun V hV => run_ldc rfl Try.underlying36 rfl rfl (((E0.out.below hV).get (i := 0) rfl).c 34 _ (lsR_Devices (by rw [List.length_map, k1])))) hS ?_; (try simp only [Act.put, List.setIfInBounds_toArray, List.set_cons_zero, List.set_cons_succ])
  refine wpAnyL_take 11 rfl rfl (by kernel_rfl) (by kernel_rfl) (by kernel_rfl) (fun _ _ _ h => h) rfl (fun V hV => run_len rfl Try.underlying36 rfl) hS ?_; (try simp only [Act.put, List.setIfInBounds_toArray, List.set_cons_zero, List.set_cons_succ])
  refine wpAnyL_call 2 (by kernel_rfl) rfl rfl rfl (run_call1 enters_number10 rfl rfl rfl) (number10_any m.acc _) (fun v w h => hS.trans (h.bl.mono hS.size)) (fun v5 a4 hR => ?_); (try simp only [Act.put, List.setIfInBounds_toArray, List.set_cons_zero, List.set_cons_succ])
  have hb9 := hR.bl
  replace hS := hS.trans (hb9.mono hS.size)
  have hs9 := hR.sl
  obtain ⟨xa6, xc7, rfl, -, -⟩ := id hs9
  replace E := Lib.hid (E.out.call hb9 (fro_sl hR.O))
  clear hb9 hR hs9
  refine wpAnyL_call 5 (by kernel_rfl) rfl rfl rfl (run_call1 enters_number10 rfl rfl rfl) (number10_any m.ver _) (fun v w h => hS.trans (h.bl.mono hS.size)) (fun v9 a8 hR => ?_); (try simp only [Act.put, List.setIfInBounds_toArray, List.set_cons_zero, List.set_cons_succ])
  have hb9 := hR.bl
  replace hS := hS.trans (hb9.mono hS.size)
  have hs9 := hR.sl
  obtain ⟨xa10, xc11, rfl, -, -⟩ := id hs9
  replace E := Lib.hid (E.out.call hb9 (fro_sl hR.O))
  clear hb9 hR hs9
  refine wpAnyL_call 8 (by kernel_rfl) rfl rfl rfl (run_call1 enters_key10 rfl rfl rfl) (key10_any m.ident _ k1) (fun v w h => hS.trans (h.bl.mono hS.size)) (fun v13 a12 hR => ?_); (try simp only [Act.put, List.setIfInBounds_toArray, List.set_cons_zero, List.set_cons_succ])
  have hb9 := hR.bl
  replace hS := hS.trans (hb9.mono hS.size)
  have hs9 := hR.sl
  obtain ⟨xa14, xc15, rfl, -, -⟩ := id hs9
  replace E := Lib.hid (E.out.call hb9 (fro_sl hR.O))
  clear hb9 hR hs9
  refine wpAnyL_call 12 (by kernel_rfl) rfl rfl rfl (run_call1 enters_number10 rfl rfl rfl) (number10_any ((n : Nat) : Int) _) (fun v w h => hS.trans (h.bl.mono hS.size)) (fun v17 a16 hR => ?_); (try simp only [Act.put, List.setIfInBounds_toArray, List.set_cons_zero, List.set_cons_succ])
  have hb9 := hR.bl
  replace hS := hS.trans (hb9.mono hS.size)
  have hs9 := hR.sl
  obtain ⟨xa18, xc19, rfl, -, -⟩ := id hs9
  replace E := Lib.hid (E.out.call hb9 (fro_sl hR.O))
  clear hb9 hR hs9
  have HC : Hid (Cat a16.heap.size [.slice xa6 (viB m.acc).length xc7, .slice xa10 (viB m.ver).length xc11, .slice xa14 (m.ident).length xc15, .slice xa18 (viB ((n : Nat) : Int)).length xc19] [viB m.acc, viB m.ver, m.ident, viB ((n : Nat) : Int)] (a16.alloc (.cells #[.slice xa6 (viB m.acc).length xc7, .slice xa10 (viB m.ver).length xc11, .slice xa14 (m.ident).length xc15, .slice xa18 (viB ((n : Nat) : Int)).length xc19] 22))) := Lib.hid (cat_row a16 _ [viB m.acc, viB m.ver, m.ident, viB ((n : Nat) : Int)] fun i hi => match i, hi with
    | 0, _ => ⟨_, rfl, E.out.h.2.2.2.1⟩
    | 1, _ => ⟨_, rfl, E.out.h.2.2.1⟩
    | 2, _ => ⟨_, rfl, E.out.h.2.1⟩
    | 3, _ => ⟨_, rfl, E.out.h.1⟩
    | i + 4, hi => absurd hi (by simp))
  refine wpAnyL_val 13 (by kernel_rfl) rfl rfl rfl (run_bsl (cells := #[.slice xa6 (viB m.acc).length xc7, .slice xa10 (viB m.ver).length xc11, .slice xa14 (m.ident).length xc15, .slice xa18 (viB ((n : Nat) : Int)).length xc19]) (z := .slice none 0 0) rfl Try.underlying122 (by kernel_rfl) (by omega) (by omega) (by kernel_rfl)) (hS.alloc hS.size _) ?_; (try simp only [Act.put, List.setIfInBounds_toArray, List.set_cons_zero, List.set_cons_succ])
  replace E := Lib.hid (E.out.below (cat_belowA a16 #[.slice xa6 (viB m.acc).length xc7, .slice xa10 (viB m.ver).length xc11, .slice xa14 (m.ident).length xc15, .slice xa18 (viB ((n : Nat) : Int)).length xc19] 22))
  replace hS := hS.alloc hS.size (.cells #[.slice xa6 (viB m.acc).length xc7, .slice xa10 (viB m.ver).length xc11, .slice xa14 (m.ident).length xc15, .slice xa18 (viB ((n : Nat) : Int)).length xc19] 22)
  generalize a16.alloc (.cells #[.slice xa6 (viB m.acc).length xc7, .slice xa10 (viB m.ver).length xc11, .slice xa14 (m.ident).length xc15, .slice xa18 (viB ((n : Nat) : Int)).length xc19] 22) = a20 at *
  generalize a16.heap.size = g21 at *
  refine wpAnyL_call 14 (by kernel_rfl) rfl rfl rfl (run_call1 enters_all10 rfl rfl rfl) (all10_any g21 _ [viB m.acc, viB m.ver, m.ident, viB ((n : Nat) : Int)] 4 _ HC.out rfl (by omega) (by simp only [List.flatten_cons, List.flatten_nil, List.length_append, List.length_nil]; omega)) (fun v w h => hS.trans (h.bl.mono hS.size)) (fun VL a22 hR => ?_); (try simp only [Act.put, List.setIfInBounds_toArray, List.set_cons_zero, List.set_cons_succ])
  have HL2 := Lib.hid (hR.mono E.out.bl)
  replace hS := hS.trans (hR.bl.mono hS.size)
  replace E := Lib.hid (E.out.below hR.bl)
  clear hR HC
  refine wpAnyL_take 15 rfl rfl (by kernel_rfl) (by kernel_rfl) (by kernel_rfl) (fun _ _ _ h => h) rfl (fun V hV => run_asg (v := VL) rfl rfl) hS ?_; (try simp only [Act.put, List.setIfInBounds_toArray, List.set_cons_zero, List.set_cons_succ])
  refine wpAnyL_done (by kernel_rfl) ?_ _; refine NoPanic.normal ?_
  have hI : Hid (S5 w VL (Fl 0) a22) := Lib.hid (by
    have h := HL2.out
    rw [E0'.out]
    simpa using h)
  have E1 := Lib.hid (E.out.knowH (H0 := fun _ => True) fun _ _ => trivial)
  clear E
  have E := E1
  clear E1 HL2 E0
  go_upto_region 2 with fail; refine wp_region_lit ?_
  refine wpList_val (run_asg (v := .int .i64 0) rfl rfl) rfl ?_; (try simp only [Act.put, List.setIfInBounds_toArray, List.set_cons_zero, List.set_cons_succ])
  refine wpList_end ?_
  go_wp2_with fail
  go_loopw [3, 4] (fun s3 s4 u => ∃ i : Nat, i ≤ n ∧ s4 = .int .i64 (i : Int) ∧ S5 w s3 (Fl i) u ∧ Ev w [(g2, lsR (.int .i64 m.acc) (.int .i64 m.ver) (m.ident.map b8) (.slice a0 n c0) (m.sig.map b8))] [] (fun _ => True) (fun _ => True) u) (fun _ s4 _ => (n - intOf s4).toNat)
  case atStart => exact ⟨0, by omega, rfl, hI.out, E.out⟩
  case round =>
    obtain ⟨i, hi, rfl, hJ, hE⟩ := hrel
    replace hI := Lib.hid hJ
    replace E := Lib.hid hE
    clear hJ hE
    have hfl := HL.out i hi
    have HI := Lib.hid hI.out.sl
    obtain ⟨y1, c1, hy, -, -⟩ := id HI.out
    subst hy
    by_cases hik : i = n
    · subst hik
      go_upto_region 3 with fail; refine wp_region_lit ?_
      refine wpList_val (run_mv (v := .int .i64 (i : Int)) rfl rfl) rfl ?_; (try simp only [Act.put, List.setIfInBounds_toArray, List.set_cons_zero, List.set_cons_succ])
      refine wpList_val (run_fad (s := 0) (k := 34) rfl Try.underlying40 rfl (by kernel_rfl) rfl rfl) rfl ?_; (try simp only [Act.put, List.setIfInBounds_toArray, List.set_cons_zero, List.set_cons_succ])
      refine wpList_val (run_ldc rfl Try.underlying36 rfl rfl ((E.out.get (i := 0) rfl).c 34 _ (lsR_Devices (by rw [List.length_map, k1])))) rfl ?_; (try simp only [Act.put, List.setIfInBounds_toArray, List.set_cons_zero, List.set_cons_succ])
      refine wpList_val (run_len rfl Try.underlying36 rfl) rfl ?_; (try simp only [Act.put, List.setIfInBounds_toArray, List.set_cons_zero, List.set_cons_succ])
      refine wpList_val (run_lssb (c := false) rfl rfl rfl (decide_eq_false (by omega))) rfl ?_; (try simp only [Act.put, List.setIfInBounds_toArray, List.set_cons_zero, List.set_cons_succ])
      refine wpList_end ?_
      go_upto_region 6 with fail; refine wp_region_lit ?_
      refine wpList_val (run_mv (v := .slice y1 (Fl i).length c1) rfl rfl) rfl ?_; (try simp only [Act.put, List.setIfInBounds_toArray, List.set_cons_zero, List.set_cons_succ])
      refine wpList_val (run_fad (s := 63) (k := 35) rfl Try.underlying40 rfl (by kernel_rfl) rfl rfl) rfl ?_; (try simp only [Act.put, List.setIfInBounds_toArray, List.set_cons_zero, List.set_cons_succ])
      refine wpList_val (run_ldM (vs := m.sig.map b8) rfl Try.underlying38 rfl (szR (by rw [List.length_map, k2]) (by kernel_rfl)) rfl ((E.out.get (i := 0) rfl).seg (lsR_Sig (by rw [List.length_map, k1]) (by rw [List.length_map, k2])))) rfl ?_; (try simp only [Act.put, List.setIfInBounds_toArray, List.set_cons_zero, List.set_cons_succ])
      refine wpList_callR (run_call1 enters_sig10 rfl rfl rfl) rfl (sig10_any m.sig _ k2) (fun vs b1 hR => ?_); (try simp only [Act.put, List.setIfInBounds_toArray, List.set_cons_zero, List.set_cons_succ])
      have HI2 := Lib.hid (HI.out.below hR.bl)
      have hs9 := hR.sl
      obtain ⟨xs, xcs, rfl, -, -⟩ := id hs9
      replace E := Lib.hid (E.out.below hR.bl)
      have HS := Lib.hid hs9
      clear hs9 hR
      have HC : Hid (Cat b1.heap.size [.slice y1 (Fl i).length c1, .slice xs m.sig.length xcs] [Fl i, m.sig] (b1.alloc (.cells #[.slice y1 (Fl i).length c1, .slice xs m.sig.length xcs] 22))) := Lib.hid (cat_row b1 _ [Fl i, m.sig] fun i hi => match i, hi with
        | 0, _ => ⟨_, rfl, HI2.out⟩
        | 1, _ => ⟨_, rfl, HS.out⟩
        | i + 2, hi => absurd hi (by simp))
      refine wpList_val (run_bsl (cells := #[.slice y1 (Fl i).length c1, .slice xs m.sig.length xcs]) (z := .slice none 0 0) rfl Try.underlying122 (by kernel_rfl) (by omega) (by omega) (by kernel_rfl)) rfl ?_; (try simp only [Act.put, List.setIfInBounds_toArray, List.set_cons_zero, List.set_cons_succ])
      replace E := Lib.hid (E.out.below (cat_belowA b1 #[.slice y1 (Fl i).length c1, .slice xs m.sig.length xcs] 22))
      generalize b1.alloc (.cells #[.slice y1 (Fl i).length c1, .slice xs m.sig.length xcs] 22) = b2 at *
      generalize b1.heap.size = gc at *
      refine wpList_callR (run_call1 enters_all10 rfl rfl rfl) rfl (all10_any gc _ [Fl i, m.sig] 2 _ HC.out rfl (by omega) (by simp only [List.flatten_cons, List.flatten_nil, List.length_append, List.length_nil]; omega)) (fun VL b3 hR => ?_); (try simp only [Act.put, List.setIfInBounds_toArray, List.set_cons_zero, List.set_cons_succ])
      have HL3 := Lib.hid (hR.mono E.out.bl)
      clear hR HC
      refine wpList_val (run_asg (v := VL) rfl rfl) rfl ?_; (try simp only [Act.put, List.setIfInBounds_toArray, List.set_cons_zero, List.set_cons_succ])
      refine wpList_end ?_
      have hO : Hid (S5 w VL out b3) := Lib.hid (by
        have h := HL3.out
        rw [EO.out]
        simpa using h)
      go_wp2_with fail
      exact bodyPost_ret (results_tmp Try.results23 _ _ _) rfl ⟨_, rfl, hO.out⟩
    · go_upto_region 3 with fail; refine wp_region_lit ?_
      refine wpList_val (run_mv (v := .int .i64 (i : Int)) rfl rfl) rfl ?_; (try simp only [Act.put, List.setIfInBounds_toArray, List.set_cons_zero, List.set_cons_succ])
      refine wpList_val (run_fad (s := 0) (k := 34) rfl Try.underlying40 rfl (by kernel_rfl) rfl rfl) rfl ?_; (try simp only [Act.put, List.setIfInBounds_toArray, List.set_cons_zero, List.set_cons_succ])
      refine wpList_val (run_ldc rfl Try.underlying36 rfl rfl ((E.out.get (i := 0) rfl).c 34 _ (lsR_Devices (by rw [List.length_map, k1])))) rfl ?_; (try simp only [Act.put, List.setIfInBounds_toArray, List.set_cons_zero, List.set_cons_succ])
      refine wpList_val (run_len rfl Try.underlying36 rfl) rfl ?_; (try simp only [Act.put, List.setIfInBounds_toArray, List.set_cons_zero, List.set_cons_succ])
      refine wpList_val (run_lssb (c := true) rfl rfl rfl (decide_eq_true (by omega))) rfl ?_; (try simp only [Act.put, List.setIfInBounds_toArray, List.set_cons_zero, List.set_cons_succ])
      refine wpList_end ?_
      obtain ⟨g, f, nid, kk, rfl, hx, hk, hc, hr⟩ := HE.out i (by omega)
      have HX := Lib.hid hx
      have HC1 := Lib.hid hc
      have HR1 := Lib.hid hr
      clear hx hc hr
      have b4 := viB_len nid
      go_upto_region 5 with fail
      refine wp_region_noPanic ?_; refine wp_region_late (S := fun _ V => Below wr.heap.size wr V) (by kernel_rfl) ((Below.refl _ _).drew) (fun hS => ?_)
      have E0 := E
      replace E := Lib.hid (E.out.below hS)
      generalize wr.drew = a24 at *
      refine wpAnyL_take 0 rfl rfl (by kernel_rfl) (by kernel_rfl) (by kernel_rfl) (fun _ _ _ h => h) rfl (fun V hV => run_mv (v := .slice y1 (Fl i).length c1) rfl rfl) hS ?_; (try simp only [Act.put, List.setIfInBounds_toArray, List.set_cons_zero, List.set_cons_succ])
      refine wpAnyL_take 1 rfl rfl (by kernel_rfl) (by kernel_rfl) (by kernel_rfl) (fun _ _ _ h => h) rfl (fun V hV => run_fad (s := 0) (k := 34) rfl Try.underlying40 rfl (by kernel_rfl) rfl rfl) hS ?_; (try simp only [Act.put, List.setIfInBounds_toArray, List.set_cons_zero, List.set_cons_succ])
      refine wpAnyL_take 2 rfl rfl (by kernel_rfl) (by kernel_rfl) (by kernel_rfl) (fun _ _ _ h => h) rfl (fun V hV => run_ldc rfl Try.underlying36 rfl rfl (((E0.out.below hV).get (i := 0) rfl).c 34 _ (lsR_Devices (by rw [List.length_map, k1])))) hS ?_; (try simp only [Act.put, List.setIfInBounds_toArray, List.set_cons_zero, List.set_cons_succ])
      refine wpAnyL_take 3 rfl rfl (by kernel_rfl) (by kernel_rfl) (by kernel_rfl) (fun _ _ _ h => h) rfl (fun V hV => run_mv (v := .int .i64 (i : Int)) rfl rfl) hS ?_; (try simp only [Act.put, List.setIfInBounds_toArray, List.set_cons_zero, List.set_cons_succ])
      refine wpAnyL_take 4 rfl rfl (by kernel_rfl) (by kernel_rfl) (by kernel_rfl) (fun _ _ _ h => h) rfl (fun V hV => run_ixZ (z := 33) (i := i) rfl Try.underlying36 (by kernel_rfl) rfl rfl (by omega)) hS ?_; (try simp only [Act.put, List.setIfInBounds_toArray, List.set_cons_zero, List.set_cons_succ])
      refine wpAnyL_take 5 rfl rfl (by kernel_rfl) (by kernel_rfl) (by kernel_rfl) (fun _ _ _ h => h) rfl (fun V hV => run_fad (s := 0) (k := 0) rfl Try.underlying123 rfl (by kernel_rfl) rfl rfl) hS ?_; (try simp only [Act.put, List.setIfInBounds_toArray, List.set_cons_zero, List.set_cons_succ])
      refine wpAnyL_take 6 rfl rfl (by kernel_rfl) (by kernel_rfl) (by kernel_rfl) (fun _ _ _ h => h) rfl (fun V hV => run_ldi rfl rfl (HC1.out _ ((E0.out.below hV).bl))) hS ?_; (try simp only [Act.put, List.setIfInBounds_toArray, List.set_cons_zero, List.set_cons_succ])
      refine wpAnyL_take 8 rfl rfl (by kernel_rfl) (by kernel_rfl) (by kernel_rfl) (fun _ _ _ h => h) rfl (fun V hV => run_fad (s := 0) (k := 34) rfl Try.underlying40 rfl (by kernel_rfl) rfl rfl) hS ?_; (try simp only [Act.put, List.setIfInBounds_toArray, List.set_cons_zero, List.set_cons_succ])
      refine wpAnyL_take 9 rfl rfl (by kernel_rfl) (by kernel_rfl) (by kernel_rfl) (fun _ _ _ h => h) rfl (fun V hV => run_ldc rfl Try.underlying36 rfl rfl (((E0.out.below hV).get (i := 0) rfl).c 34 _ (lsR_Devices (by rw [List.length_map, k1])))) hS ?_; (try simp only [Act.put, List.setIfInBounds_toArray, List.set_cons_zero, List.set_cons_succ])
      refine wpAnyL_take 10 rfl rfl (by kernel_rfl) (by kernel_rfl) (by kernel_rfl) (fun _ _ _ h => h) rfl (fun V hV => run_mv (v := .int .i64 (i : Int)) rfl rfl) hS ?_; (try simp only [Act.put, List.setIfInBounds_toArray, List.set_cons_zero, List.set_cons_succ])
      refine wpAnyL_take 11 rfl rfl (by kernel_rfl) (by kernel_rfl) (by kernel_rfl) (fun _ _ _ h => h) rfl (fun V hV => run_ixZ (z := 33) (i := i) rfl Try.underlying36 (by kernel_rfl) rfl rfl (by omega)) hS ?_; (try simp only [Act.put, List.setIfInBounds_toArray, List.set_cons_zero, List.set_cons_succ])
      refine wpAnyL_take 12 rfl rfl (by kernel_rfl) (by kernel_rfl) (by kernel_rfl) (fun _ _ _ h => h) rfl (fun V hV => run_fad (s := 31) (k := 1) rfl Try.underlying123 rfl (by kernel_rfl) rfl rfl) hS ?_; (try simp only [Act.put, List.setIfInBounds_toArray, List.set_cons_zero, List.set_cons_succ])
      refine wpAnyL_take 13 rfl rfl (by kernel_rfl) (by kernel_rfl) (by kernel_rfl) (fun _ _ _ h => h) rfl (fun V hV => run_ldM (vs := kk.map b8) rfl Try.underlying35 rfl (szR (by rw [List.length_map, hk]) (by kernel_rfl)) rfl (HR1.out _ ((E0.out.below hV).bl))) hS ?_; (try simp only [Act.put, List.setIfInBounds_toArray, List.set_cons_zero, List.set_cons_succ])
      refine wpAnyL_call 7 (by kernel_rfl) rfl rfl rfl (run_call1 enters_number10 rfl rfl rfl) (number10_any nid _) (fun v w h => hS.trans (h.bl.mono hS.size)) (fun v26 a25 hR => ?_); (try simp only [Act.put, List.setIfInBounds_toArray, List.set_cons_zero, List.set_cons_succ])
      have hb9 := hR.bl
      replace hS := hS.trans (hb9.mono hS.size)
      have hs9 := hR.sl
      obtain ⟨xa27, xc28, rfl, -, -⟩ := id hs9
      replace E := Lib.hid (E.out.call hb9 (fro_sl hR.O))
      clear hb9 hR hs9
      refine wpAnyL_call 14 (by kernel_rfl) rfl rfl rfl (run_call1 enters_key10 rfl rfl rfl) (key10_any kk _ hk) (fun v w h => hS.trans (h.bl.mono hS.size)) (fun v30 a29 hR => ?_); (try simp only [Act.put, List.setIfInBounds_toArray, List.set_cons_zero, List.set_cons_succ])
      have hb9 := hR.bl
      replace hS := hS.trans (hb9.mono hS.size)
      have hs9 := hR.sl
      obtain ⟨xa31, xc32, rfl, -, -⟩ := id hs9
      replace E := Lib.hid (E.out.call hb9 (fro_sl hR.O))
      clear hb9 hR hs9
      have HC : Hid (Cat a29.heap.size [.slice y1 (Fl i).length c1, .slice xa27 (viB nid).length xc28, .slice xa31 (kk).length xc32] [Fl i, viB nid, kk] (a29.alloc (.cells #[.slice y1 (Fl i).length c1, .slice xa27 (viB nid).length xc28, .slice xa31 (kk).length xc32] 22))) := Lib.hid (cat_row a29 _ [Fl i, viB nid, kk] fun i hi => match i, hi with
        | 0, _ => ⟨_, rfl, (HI.out.below hS)⟩
        | 1, _ => ⟨_, rfl, E.out.h.2.1⟩
        | 2, _ => ⟨_, rfl, E.out.h.1⟩
        | i + 3, hi => absurd hi (by simp))
      refine wpAnyL_val 15 (by kernel_rfl) rfl rfl rfl (run_bsl (cells := #[.slice y1 (Fl i).length c1, .slice xa27 (viB nid).length xc28, .slice xa31 (kk).length xc32]) (z := .slice none 0 0) rfl Try.underlying122 (by kernel_rfl) (by omega) (by omega) (by kernel_rfl)) (hS.alloc hS.size _) ?_; (try simp only [Act.put, List.setIfInBounds_toArray, List.set_cons_zero, List.set_cons_succ])
      replace E := Lib.hid (E.out.below (cat_belowA a29 #[.slice y1 (Fl i).length c1, .slice xa27 (viB nid).length xc28, .slice xa31 (kk).length xc32] 22))
      replace hS := hS.alloc hS.size (.cells #[.slice y1 (Fl i).length c1, .slice xa27 (viB nid).length xc28, .slice xa31 (kk).length xc32] 22)
      generalize a29.alloc (.cells #[.slice y1 (Fl i).length c1, .slice xa27 (viB nid).length xc28, .slice xa31 (kk).length xc32] 22) = a33 at *
      generalize a29.heap.size = g34 at *
      refine wpAnyL_call 16 (by kernel_rfl) rfl rfl rfl (run_call1 enters_all10 rfl rfl rfl) (all10_any g34 _ [Fl i, viB nid, kk] 3 _ HC.out rfl (by omega) (by simp only [List.flatten_cons, List.flatten_nil, List.length_append, List.length_nil]; omega)) (fun v w h => hS.trans (h.bl.mono hS.size)) (fun VL a35 hR => ?_); (try simp only [Act.put, List.setIfInBounds_toArray, List.set_cons_zero, List.set_cons_succ])
      have HL2 := Lib.hid (hR.mono E.out.bl)
      replace hS := hS.trans (hR.bl.mono hS.size)
      replace E := Lib.hid (E.out.below hR.bl)
      clear hR HC
      refine wpAnyL_take 17 rfl rfl (by kernel_rfl) (by kernel_rfl) (by kernel_rfl) (fun _ _ _ h => h) rfl (fun V hV => run_asg (v := VL) rfl rfl) hS ?_; (try simp only [Act.put, List.setIfInBounds_toArray, List.set_cons_zero, List.set_cons_succ])
      refine wpAnyL_done (by kernel_rfl) ?_ _; refine NoPanic.normal ?_
      go_upto_region 4 with fail; refine wp_region_lit ?_
      refine wpList_val (run_mv (v := .int .i64 (i : Int)) rfl rfl) rfl ?_; (try simp only [Act.put, List.setIfInBounds_toArray, List.set_cons_zero, List.set_cons_succ])
      refine wpList_val (run_addN (a := i) (b := 1) rfl rfl rfl (by omega)) rfl ?_; (try simp only [Act.put, List.setIfInBounds_toArray, List.set_cons_zero, List.set_cons_succ])
      refine wpList_val (run_asg (v := .int .i64 ((i + 1 : Nat) : Int)) rfl rfl) rfl ?_; (try simp only [Act.put, List.setIfInBounds_toArray, List.set_cons_zero, List.set_cons_succ])
      refine wpList_end ?_
      go_wp2_with fail
      exact ⟨⟨i + 1, by omega, rfl, by rw [HX.out]; have h := HL2.out; simpa using h, E.out.knowH fun _ _ => trivial⟩, by simp [intOf]; omega⟩
end Go.Proofs.Ytgioojahadlmhaa
namespace Go.Proofs.Ytgioojahadlmhaa
open Go.RowKit
set_option maxRecDepth 20000
attribute [local irreducible] wpList

theorem lsB_len {m : MLs} (h : m.Ok) : (lsB m).length ≤ 2280200 := by
  have h1 := lsF_len h m.devs.length (Nat.le_refl _)
  have h2 := h.many
  have h3 := h.sig
  unfold lsB
  rw [List.length_append]; omega
theorem buB_len {m : MBu} (h : m.Ok) : (buB m).length ≤ 2280300 := by
  have h1 := viB_len m.acc
  have h2 := viB_len m.dev
  have h3 := pkB_len h.signed
  have h4 := psB_len h.ones m.ones.length
  have h5 := h.many
  have h6 := h.ident
  have h7 := h.key
  have h8 := h.sig
  unfold buB
  simp only [List.length_append]; omega
theorem lsAt_len {m : MLs} {c : List Value} {V : World} (hm : m.Ok) (h : lsAt m c V) : c.length = 99 := by
  obtain ⟨_, _, rfl, -⟩ := h
  exact lsR_len (by rw [List.length_map, hm.ident]) (by rw [List.length_map, hm.sig])
theorem lsAt_one {m : MLs} {c : List Value} {V : World} (h : lsAt m c V) : One c := by
  obtain ⟨_, _, rfl, -⟩ := h
  exact lsR_one rfl rfl (One.b8 _) rfl (One.b8 _)
theorem buAt_len {m : MBu} {c : List Value} {V : World} (hm : m.Ok) (h : buAt m c V) : c.length = 164 := by
  obtain ⟨_, _, rfl, -⟩ := h
  exact buR_len (by rw [List.length_map, hm.ident]) (by rw [List.length_map, hm.key]) (pkC_len' hm.signed) (by rw [List.length_map, hm.sig])
theorem buAt_one {m : MBu} {c : List Value} {V : World} (hm : m.Ok) (h : buAt m c V) : One c := by
  obtain ⟨_, _, rfl, -⟩ := h
  exact buR_one rfl rfl (One.b8 _) (One.b8 _) (pkC_one hm.signed) (One.b8 _) rfl
structure MRp.Ok (m : MRp) : Prop where
  err0 : 0 ≤ m.err
  err1 : m.err < 65536
  ls : m.ls.Ok
  bu : m.bu.Ok
  mail : ∀ p ∈ m.mail, p.Ok
  many : m.mail.length ≤ 60000
  size : (evsB m.mail m.mail.length).length ≤ 8000000
def rpB (m : MRp) : List (BitVec 8) := viB m.err ++ lsB m.ls ++ buB m.bu ++ evsB m.mail m.mail.length
theorem rpAt_fix {m : MRp} {X : List Value} {w : World} (hm : m.Ok) (h : Fro 0 (rpAt m X) w) : ∃ c1 c2 a c, X = rpR (.int .u16 m.err) c1 c2 (.slice a m.mail.length c) ∧ c1.length = 99 ∧ c2.length = 164 ∧ One c1 ∧ One c2 ∧ Fro 0 (lsAt m.ls c1) w ∧ Fro 0 (buAt m.bu c2) w ∧ Fro 0 (SlR 72 evAt m.mail a c) w := by
  obtain ⟨c1, c2, a, c, hq, q1, q2, -⟩ := h.now
  have l1 := lsAt_len hm.ls q1
  have l2 := buAt_len hm.bu q2
  have key : ∀ V, Ext 0 [] w V → lsAt m.ls c1 V ∧ buAt m.bu c2 V ∧ SlR 72 evAt m.mail a c V := fun V hV => by
    obtain ⟨d1, d2, a2, c3, h1, h2, h3, h4⟩ := h V hV
    have m1 := lsAt_len hm.ls h2
    have m2 := buAt_len hm.bu h3
    rw [hq] at h1
    have e1 : (_ : List Value) = (_ : List Value) := congrArg (fun l : List Value => (l.drop 1).take 99) h1
    have e2 : (_ : List Value) = (_ : List Value) := congrArg (fun l : List Value => (l.drop 100).take 164) h1
    have e3 : (_ : List Value)[264]? = (_ : List Value)[264]? := congrArg (fun l : List Value => l[264]?) h1
    rw [rpR_List l1, rpR_List m1] at e1
    rw [rpR_Bundle l1 l2, rpR_Bundle m1 m2] at e2
    rw [rpR_Mail l1 l2, rpR_Mail m1 m2] at e3
    simp only [Option.some.injEq, Value.slice.injEq] at e3
    obtain ⟨rfl, _, rfl⟩ := e3
    subst e1
    subst e2
    exact ⟨h2, h3, h4⟩
  exact ⟨c1, c2, a, c, hq, l1, l2, lsAt_one q1, buAt_one hm.bu q2, fun V hV => (key V hV).1, fun V hV => (key V hV).2.1, fun V hV => (key V hV).2.2⟩
theorem run_cv16i {w : World} {ρ : Operand → Value} {o : Oper} {x : Operand} {n : Int} (ho : o.op = .convert 28 3 x) (hx : ρ x = .int .u16 n) (h0 : 0 ≤ n) (h1 : n < 65536) : (execOp ρ o).run Try.prog w = .ok (.value (.int .i64 n)) w := by
  rw [run_cv ho Try.underlying28 Try.underlying3 hx, i64_fit (by omega) (by omega)]
theorem enters_response10 : Enters 29 := enters_of Try.func29 (by kernel_rfl) rfl
set_option maxHeartbeats 16000000 in
theorem response10_any (m : MRp) (X : List Value) (w : World) (hm : m.Ok) (hX : Fro 0 (rpAt m X) w) : Calls Try.prog 29 #[.agg X.toArray] w fun x w' => ∃ v', x = .returned v' ∧ S5 w v' (rpB m) w' := by
  obtain ⟨c1, c2, a0, c0, rfl, l1, l2, o1, o2, f1, f2, f3⟩ := rpAt_fix hm hX
  clear hX
  have C1 : Hid (∀ u : World, Since w u → Calls Try.prog 23 #[.agg c1.toArray] u fun x w' => ∃ v', x = .returned v' ∧ S5 u v' (lsB m.ls) w') := Lib.hid fun u hu => list10_any m.ls c1 u hm.ls fun V hV => f1 V (hV.below hu)
  have C2 : Hid (∀ u : World, Since w u → Calls Try.prog 31 #[.agg c2.toArray] u fun x w' => ∃ v', x = .returned v' ∧ S5 u v' (buB m.bu) w') := Lib.hid fun u hu => bundle10_any m.bu c2 u hm.bu fun V hV => f2 V (hV.below hu)
  have C3 : Hid (∀ u : World, Since w u → Calls Try.prog 69 #[.slice a0 m.mail.length c0] u fun x w' => ∃ v', x = .returned v' ∧ S5 u v' (evsB m.mail m.mail.length) w') := Lib.hid fun u hu => envelopes10_any a0 c0 m.mail u hm.mail hm.size hm.many fun V hV => f3 V (hV.below hu)
  have EO : Hid (rpB m = viB m.err ++ lsB m.ls ++ buB m.bu ++ evsB m.mail m.mail.length) := Lib.hid rfl
  have b1 := lsB_len hm.ls
  have b2 := buB_len hm.bu
  have b3 := hm.size
  have b4 := viB_len m.err
  have y1 := hm.err0
  have y2 := hm.err1
  have E := Lib.hid (Ev.start (w := w) (F := fun _ => True) fun _ _ => trivial)
  clear f1 f2 f3 hm
  generalize rpB m = out at *
  generalize lsB m.ls = B1 at *
  generalize buB m.bu = B2 at *
  generalize evsB m.mail m.mail.length = B3 at *
  go_enter Try.func29, Try.ntmps29
  go_upto_region 0 with fail; refine wp_region_lit ?_
  refine wpList_val (run_boxL8 (vs := rpR (.int .u16 m.err) (c1) (c2) (.slice a0 m.mail.length c0)) rfl rfl) rfl ?_; (try simp only [Act.put, List.setIfInBounds_toArray, List.set_cons_zero, List.set_cons_succ])
  replace E := Lib.hid (E.out.new (rpR (.int .u16 m.err) (c1) (c2) (.slice a0 m.mail.length c0)) 75)
  generalize w.alloc (.cells (rpR (.int .u16 m.err) (c1) (c2) (.slice a0 m.mail.length c0)).toArray 75) = a1 at *
  generalize w.heap.size = g2 at *
  refine wpList_val (run_asg (v := .slice none 0 0) rfl rfl) rfl ?_; (try simp only [Act.put, List.setIfInBounds_toArray, List.set_cons_zero, List.set_cons_succ])
  refine wpList_end ?_
  go_upto_region 1 with fail
  refine wp_region_noPanic ?_; refine wp_region_late (S := fun _ V => Below a1.heap.size a1 V) (by kernel_rfl) ((Below.refl _ _).drew) (fun hS => ?_)
  have E0 := E
  replace E := Lib.hid (E.out.below hS)
  generalize a1.drew = a3 at *
  refine wpAnyL_take 0 rfl rfl (by kernel_rfl) (by kernel_rfl) (by kernel_rfl) (fun _ _ _ h => h) rfl (fun V hV => run_fad (s := 0) (k := 0) rfl Try.underlying75 rfl (by kernel_rfl) rfl rfl) hS ?_; (try simp only [Act.put, List.setIfInBounds_toArray, List.set_cons_zero, List.set_cons_succ])
  refine wpAnyL_take 1 rfl rfl (by kernel_rfl) (by kernel_rfl) (by kernel_rfl) (fun _ _ _ h => h) rfl (fun V hV => run_ldc rfl Try.underlying28 rfl rfl (((E0.out.below hV).get (i := 0) rfl).c 0 _ (rpR_Err ))) hS ?_; (try simp only [Act.put, List.setIfInBounds_toArray, List.set_cons_zero, List.set_cons_succ])
  refine wpAnyL_take 2 rfl rfl (by kernel_rfl) (by kernel_rfl) (by kernel_rfl) (fun _ _ _ h => h) rfl (fun V hV => run_cv16i rfl rfl y1 y2) hS ?_; (try simp only [Act.put, List.setIfInBounds_toArray, List.set_cons_zero, List.set_cons_succ])
  refine wpAnyL_take 4 rfl rfl (by kernel_rfl) (by kernel_rfl) (by kernel_rfl) (fun _ _ _ h => h) rfl (fun V hV => run_fad (s := 98) (k := 1) rfl Try.underlying75 rfl (by kernel_rfl) rfl rfl) hS ?_; (try simp only [Act.put, List.setIfInBounds_toArray, List.set_cons_zero, List.set_cons_succ])
  refine wpAnyL_take 5 rfl rfl (by kernel_rfl) (by kernel_rfl) (by kernel_rfl) (fun _ _ _ h => h) rfl (fun V hV => run_ldM (vs := c1) rfl Try.underlying40 rfl (szR l1 (by kernel_rfl)) rfl (((E0.out.below hV).get (i := 0) rfl).seg (rpR_List l1))) hS ?_; (try simp only [Act.put, List.setIfInBounds_toArray, List.set_cons_zero, List.set_cons_succ])
  refine wpAnyL_take 7 rfl rfl (by kernel_rfl) (by kernel_rfl) (by kernel_rfl) (fun _ _ _ h => h) rfl (fun V hV => run_fad (s := 163) (k := 100) rfl Try.underlying75 rfl (by kernel_rfl) rfl rfl) hS ?_; (try simp only [Act.put, List.setIfInBounds_toArray, List.set_cons_zero, List.set_cons_succ])
  refine wpAnyL_take 8 rfl rfl (by kernel_rfl) (by kernel_rfl) (by kernel_rfl) (fun _ _ _ h => h) rfl (fun V hV => run_ldM (vs := c2) rfl Try.underlying72 rfl (szR l2 (by kernel_rfl)) rfl (((E0.out.below hV).get (i := 0) rfl).seg (rpR_Bundle l1 l2))) hS ?_; (try simp only [Act.put, List.setIfInBounds_toArray, List.set_cons_zero, List.set_cons_succ])
  refine wpAnyL_take 10 rfl rfl (by kernel_rfl) (by kernel_rfl) (by kernel_rfl) (fun _ _ _ h => h) rfl (fun V hV => run_fad (s := 0) (k := 264) rfl Try.underlying75 rfl (by kernel_rfl) rfl rfl) hS ?_; (try simp only [Act.put, List.setIfInBounds_toArray, List.set_cons_zero, List.set_cons_succ])
  refine wpAnyL_take 11 rfl rfl (by kernel_rfl) (by kernel_rfl) (by kernel_rfl) (fun _ _ _ h => h) rfl (fun V hV => run_ldc rfl Try.underlying73 rfl rfl (((E0.out.below hV).get (i := 0) rfl).c 264 _ (rpR_Mail l1 l2))) hS ?_; (try simp only [Act.put, List.setIfInBounds_toArray, List.set_cons_zero, List.set_cons_succ])
  refine wpAnyL_call 3 (by kernel_rfl) rfl rfl rfl (run_call1 enters_number10 rfl rfl rfl) (number10_any m.err _) (fun v w h => hS.trans (h.bl.mono hS.size)) (fun v5 a4 hR => ?_); (try simp only [Act.put, List.setIfInBounds_toArray, List.set_cons_zero, List.set_cons_succ])
  have hb9 := hR.bl
  replace hS := hS.trans (hb9.mono hS.size)
  have hs9 := hR.sl
  obtain ⟨xa6, xc7, rfl, -, -⟩ := id hs9
  replace E := Lib.hid (E.out.call hb9 (fro_sl hR.O))
  clear hb9 hR hs9
  refine wpAnyL_call 6 (by kernel_rfl) rfl rfl rfl (run_call1 enters_list10 rfl rfl rfl) (C1.out _ E.out.bl) (fun v w h => hS.trans (h.bl.mono hS.size)) (fun v9 a8 hR => ?_); (try simp only [Act.put, List.setIfInBounds_toArray, List.set_cons_zero, List.set_cons_succ])
  have hb9 := hR.bl
  replace hS := hS.trans (hb9.mono hS.size)
  have hs9 := hR.sl
  obtain ⟨xa10, xc11, rfl, -, -⟩ := id hs9
  replace E := Lib.hid (E.out.call hb9 (fro_sl hR.O))
  clear hb9 hR hs9
  refine wpAnyL_call 9 (by kernel_rfl) rfl rfl rfl (run_call1 enters_bundle10 rfl rfl rfl) (C2.out _ E.out.bl) (fun v w h => hS.trans (h.bl.mono hS.size)) (fun v13 a12 hR => ?_); (try simp only [Act.put, List.setIfInBounds_toArray, List.set_cons_zero, List.set_cons_succ])
  have hb9 := hR.bl
  replace hS := hS.trans (hb9.mono hS.size)
  have hs9 := hR.sl
  obtain ⟨xa14, xc15, rfl, -, -⟩ := id hs9
  replace E := Lib.hid (E.out.call hb9 (fro_sl hR.O))
  clear hb9 hR hs9
  refine wpAnyL_call 12 (by kernel_rfl) rfl rfl rfl (run_call1 enters_envelopes10 rfl rfl rfl) (C3.out _ E.out.bl) (fun v w h => hS.trans (h.bl.mono hS.size)) (fun v17 a16 hR => ?_); (try simp only [Act.put, List.setIfInBounds_toArray, List.set_cons_zero, List.set_cons_succ])
  have hb9 := hR.bl
  replace hS := hS.trans (hb9.mono hS.size)
  have hs9 := hR.sl
  obtain ⟨xa18, xc19, rfl, -, -⟩ := id hs9
  replace E := Lib.hid (E.out.call hb9 (fro_sl hR.O))
  clear hb9 hR hs9
  have HC : Hid (Cat a16.heap.size [.slice xa6 (viB m.err).length xc7, .slice xa10 (B1).length xc11, .slice xa14 (B2).length xc15, .slice xa18 (B3).length xc19] [viB m.err, B1, B2, B3] (a16.alloc (.cells #[.slice xa6 (viB m.err).length xc7, .slice xa10 (B1).length xc11, .slice xa14 (B2).length xc15, .slice xa18 (B3).length xc19] 22))) := Lib.hid (cat_row a16 _ [viB m.err, B1, B2, B3] fun i hi => match i, hi with
    | 0, _ => ⟨_, rfl, E.out.h.2.2.2.1⟩
    | 1, _ => ⟨_, rfl, E.out.h.2.2.1⟩
    | 2, _ => ⟨_, rfl, E.out.h.2.1⟩
    | 3, _ => ⟨_, rfl, E.out.h.1⟩
    | i + 4, hi => absurd hi (by simp))
  refine wpAnyL_val 13 (by kernel_rfl) rfl rfl rfl (run_bsl (cells := #[.slice xa6 (viB m.err).length xc7, .slice xa10 (B1).length xc11, .slice xa14 (B2).length xc15, .slice xa18 (B3).length xc19]) (z := .slice none 0 0) rfl Try.underlying122 (by kernel_rfl) (by omega) (by omega) (by kernel_rfl)) (hS.alloc hS.size _) ?_; (try simp only [Act.put, List.setIfInBounds_toArray, List.set_cons_zero, List.set_cons_succ])
  replace E := Lib.hid (E.out.below (cat_belowA a16 #[.slice xa6 (viB m.err).length xc7, .slice xa10 (B1).length xc11, .slice xa14 (B2).length xc15, .slice xa18 (B3).length xc19] 22))
  replace hS := hS.alloc hS.size (.cells #[.slice xa6 (viB m.err).length xc7, .slice xa10 (B1).length xc11, .slice xa14 (B2).length xc15, .slice xa18 (B3).length xc19] 22)
  generalize a16.alloc (.cells #[.slice xa6 (viB m.err).length xc7, .slice xa10 (B1).length xc11, .slice xa14 (B2).length xc15, .slice xa18 (B3).length xc19] 22) = a20 at *
  generalize a16.heap.size = g21 at *
  refine wpAnyL_call 14 (by kernel_rfl) rfl rfl rfl (run_call1 enters_all10 rfl rfl rfl) (all10_any g21 _ [viB m.err, B1, B2, B3] 4 _ HC.out rfl (by omega) (by simp only [List.flatten_cons, List.flatten_nil, List.length_append, List.length_nil]; omega)) (fun v w h => hS.trans (h.bl.mono hS.size)) (fun VL a22 hR => ?_); (try simp only [Act.put, List.setIfInBounds_toArray, List.set_cons_zero, List.set_cons_succ])
  have HL := Lib.hid (hR.mono E.out.bl)
  replace hS := hS.trans (hR.bl.mono hS.size)
  replace E := Lib.hid (E.out.below hR.bl)
  clear hR HC
  refine wpAnyL_take 15 rfl rfl (by kernel_rfl) (by kernel_rfl) (by kernel_rfl) (fun _ _ _ h => h) rfl (fun V hV => run_asg (v := VL) rfl rfl) hS ?_; (try simp only [Act.put, List.setIfInBounds_toArray, List.set_cons_zero, List.set_cons_succ])
  refine wpAnyL_done (by kernel_rfl) ?_ _; refine NoPanic.normal ?_
  have hI : Hid (S5 w VL out a22) := Lib.hid (by
    have h := HL.out
    rw [EO.out]
    simpa using h)
  go_wp2_with fail
  exact bodyPost_ret (results_tmp Try.results29 _ _ _) rfl ⟨_, rfl, hI.out⟩
end Go.Proofs.Ytgioojahadlmhaa
namespace Go.Proofs.Ytgioojahadlmhaa
open Go.RowKit
set_option maxRecDepth 20000
attribute [local irreducible] wpList

def txB (l : List (BitVec 8)) : List (BitVec 8) := viB (l.length : Int) ++ l
theorem txB_len (l : List (BitVec 8)) : (txB l).length ≤ 6 + l.length := by
  have := viB_len (l.length : Int)
  unfold txB; rw [List.length_append]; omega
theorem tx10_any (l : List (BitVec 8)) (w : World) (hl : l.length ≤ 1000000) : Calls Try.prog 62 #[.string (strOf l)] w fun e w' => ∃ v', e = .returned v' ∧ S5 w v' (txB l) w' := by
  have hs : (strOf l).size = l.length := by rw [← sbL_len, sbL_strOf]
  have h := text10_any (strOf l) w (by rw [hs]; exact hl)
  rw [hs, sbL_strOf] at h
  exact h
structure MRq.Ok (m : MRq) : Prop where
  kind0 : 0 ≤ m.kind
  kind1 : m.kind < 256
  pin : m.pin.length ≤ 100000
  next : m.next.length ≤ 100000
  name : m.name.length ≤ 100000
  ls : m.ls.Ok
  token : m.token.length = 32
  signed : m.signed.key.length = 32
  sig : m.sig.length = 64
  ones : ∀ p ∈ m.ones, p.key.length = 32
  many : m.ones.length ≤ 60000
  items : ∀ p ∈ m.items, p.2.Ok
  much : m.items.length ≤ 60000
def rqH (m : MRq) : List (BitVec 8) := viB m.kind ++ viB m.acc ++ viB m.dev ++ txB m.pin ++ txB m.next ++ txB m.name ++ lsB m.ls ++ m.token
def rqF (m : MRq) (i : Nat) : List (BitVec 8) := rqH m ++ pkB m.signed ++ m.sig ++ psB m.ones m.ones.length ++ viB m.ver ++ viB (m.items.length : Int) ++ (m.items.take i).flatMap fun p => viB p.1 ++ evB p.2
def rqB (m : MRq) : List (BitVec 8) := rqF m m.items.length
theorem rqF_succ {m : MRq} {i : Nat} (h : i < m.items.length) : rqF m (i + 1) = rqF m i ++ (viB m.items[i].1 ++ evB m.items[i].2) := by
  unfold rqF
  rw [List.take_succ_eq_append_getElem h, List.flatMap_append]
  simp
theorem rqF_le (m : MRq) : ∀ k i, i + k = m.items.length → (rqF m i).length ≤ (rqB m).length
  | 0, i, h => by rw [rqB, show i = m.items.length by omega]; exact Nat.le_refl _
  | k + 1, i, h => Nat.le_trans (by rw [rqF_succ (show i < m.items.length by omega), List.length_append]; omega) (rqF_le m k (i + 1) (by omega))
theorem run_cv8iR {w : World} {ρ : Operand → Value} {o : Oper} {x : Operand} {n : Int} (ho : o.op = .convert 5 3 x) (hx : ρ x = .int .u8 n) (h0 : 0 ≤ n) (h1 : n < 256) : (execOp ρ o).run Try.prog w = .ok (.value (.int .i64 n)) w := by
  rw [run_cv ho Try.underlying5 Try.underlying3 hx, i64_fit (by omega) (by omega)]
theorem rqAt_fix {m : MRq} {X : List Value} {w : World} (hm : m.Ok) (h : Fro 0 (rqAt m X) w) : ∃ c1 a c a2 c2, X = rqR (.int .u8 m.kind) (.int .i64 m.acc) (.int .i64 m.dev) (.string (strOf m.pin)) (.string (strOf m.next)) (.string (strOf m.name)) c1 (m.token.map b8) (pkC m.signed) (m.sig.map b8) (.slice a m.ones.length c) (.int .i64 m.ver) (.slice a2 m.items.length c2) ∧ c1.length = 99 ∧ One c1 ∧ Fro 0 (lsAt m.ls c1) w ∧ Fro 0 (SlR 33 pkAt m.ones a c) w ∧ Fro 0 (SlR 73 itAt m.items a2 c2) w := by
  obtain ⟨c1, a, c, a2, c2, hq, q1, -⟩ := h.now
  have l1 := lsAt_len hm.ls q1
  have t1 : (m.token.map b8).length = 32 := by rw [List.length_map, hm.token]
  have t2 := pkC_len' hm.signed
  have t3 : (m.sig.map b8).length = 64 := by rw [List.length_map, hm.sig]
  have key : ∀ V, Ext 0 [] w V → lsAt m.ls c1 V ∧ SlR 33 pkAt m.ones a c V ∧ SlR 73 itAt m.items a2 c2 V := fun V hV => by
    obtain ⟨d1, d2, d3, d4, d5, h1, h2, h3, h4⟩ := h V hV
    have m1 := lsAt_len hm.ls h2
    rw [hq] at h1
    have e1 : (_ : List Value) = (_ : List Value) := congrArg (fun l : List Value => (l.drop 6).take 99) h1
    have e2 : (_ : List Value)[234]? = (_ : List Value)[234]? := congrArg (fun l : List Value => l[234]?) h1
    have e3 : (_ : List Value)[236]? = (_ : List Value)[236]? := congrArg (fun l : List Value => l[236]?) h1
    rw [rqR_List l1, rqR_List m1] at e1
    rw [rqR_Ones l1 t1 t2 t3, rqR_Ones m1 t1 t2 t3] at e2
    rw [rqR_Items l1 t1 t2 t3, rqR_Items m1 t1 t2 t3] at e3
    simp only [Option.some.injEq, Value.slice.injEq] at e2 e3
    obtain ⟨rfl, _, rfl⟩ := e2
    obtain ⟨rfl, _, rfl⟩ := e3
    subst e1
    exact ⟨h2, h3, h4⟩
  exact ⟨c1, a, c, a2, c2, hq, l1, lsAt_one q1, fun V hV => (key V hV).1, fun V hV => (key V hV).2.1, fun V hV => (key V hV).2.2⟩
theorem enters_request10 : Enters 25 := enters_of Try.func25 (by kernel_rfl) rfl
set_option maxHeartbeats 16000000 in
theorem request10_any (m : MRq) (X : List Value) (w : World) (hm : m.Ok) (hT : (rqB m).length ≤ 12000000) (hX : Fro 0 (rqAt m X) w) : Calls Try.prog 25 #[.agg X.toArray] w fun x w' => ∃ v', x = .returned v' ∧ S5 w v' (rqB m) w' := by
  obtain ⟨c1, a0, c0, ai, cc1, rfl, l1, o1, f1, f2, f3⟩ := rqAt_fix hm hX
  clear hX
  have C1 : Hid (∀ u : World, Since w u → Calls Try.prog 23 #[.agg c1.toArray] u fun x w' => ∃ v', x = .returned v' ∧ S5 u v' (lsB m.ls) w') := Lib.hid fun u hu => list10_any m.ls c1 u hm.ls fun V hV => f1 V (hV.below hu)
  have C2 : Hid (∀ u : World, Since w u → Calls Try.prog 64 #[.slice a0 m.ones.length c0] u fun e w' => ∃ v', e = .returned v' ∧ S5 u v' (psB m.ones m.ones.length) w') := Lib.hid fun u hu => prekeys10_any a0 c0 m.ones u hm.ones hm.many (lz_of (f2 u (Ext.of_below hu)))
  have C3 : Hid (∀ u : World, Calls Try.prog 63 #[.agg (pkC m.signed).toArray] u fun e w' => ∃ v', e = .returned v' ∧ S5 u v' (pkB m.signed) w') := Lib.hid fun u => prekey10_any m.signed u hm.signed
  have HE : Hid (∀ i, i < m.items.length → ∃ g f d k out, ai = some ⟨g, f, none⟩ ∧ rqF m (i + 1) = rqF m i ++ (viB d ++ out) ∧ (rqF m i).length + (6 + out.length) ≤ 12000010 ∧ (k : List Value).length = 72 ∧ (∀ u, Since w u → u.cell? ⟨g, f + i * 73 + 0, none⟩ = some (.int .i64 d)) ∧ (∀ u, Since w u → u.rangeAt g (f + i * 73 + 1) k) ∧ (∀ u, Since w u → Calls Try.prog 24 #[.agg k.toArray] u fun e w' => ∃ v', e = .returned v' ∧ S5 u v' out w')) := Lib.hid fun i hi => by
    obtain ⟨g, f, cs, h1, h2, h3, h4, h5⟩ := slR_get f3 hi
    obtain ⟨cs', rfl, h6⟩ := h5.now
    have hk := hm.items _ (List.getElem_mem hi)
    have hl : cs'.length = 72 := by
      obtain ⟨_, _, rfl, -⟩ := h6
      exact evC_len hk _
    have hle := rqF_le m (m.items.length - (i + 1)) (i + 1) (by omega)
    rw [rqF_succ hi, List.length_append, List.length_append] at hle
    refine ⟨g, f, m.items[i].1, cs', evB m.items[i].2, h1, rqF_succ hi, by omega, hl, fun u hu => ?_, fun u hu => ?_, fun u hu => ?_⟩
    · exact rangeAt_below h4 h2 hu 0 _ itR_Device
    · have h7 := rangeAt_take (k := 72) (rangeAt_drop (k := 1) (rangeAt_below h4 h2 hu))
      rwa [itR_Env hl] at h7
    · obtain ⟨cs2, q1, q2⟩ := h5 u (Ext.of_below hu)
      have hl2 : cs2.length = 72 := by
        obtain ⟨_, _, rfl, -⟩ := q2
        exact evC_len hk _
      have e : (_ : List Value) = (_ : List Value) := congrArg (fun l : List Value => (l.drop 1).take 72) q1
      rw [itR_Env hl, itR_Env hl2] at e
      subst e
      obtain ⟨b1, b2, rfl, hs⟩ := q2
      exact envelope10_any _ _ u hk hs
  have HL : Hid (∀ i, i ≤ m.items.length → (rqF m i).length ≤ 12000000) := Lib.hid fun i hi => Nat.le_trans (rqF_le m (m.items.length - i) i (by omega)) hT
  have EH : Hid (rqH m = viB m.kind ++ viB m.acc ++ viB m.dev ++ txB m.pin ++ txB m.next ++ txB m.name ++ lsB m.ls ++ m.token) := Lib.hid rfl
  have E0' : Hid (rqF m 0 = rqH m ++ pkB m.signed ++ m.sig ++ psB m.ones m.ones.length ++ viB m.ver ++ viB ((m.items.length : Nat) : Int)) := Lib.hid (by simp [rqF])
  have EO : Hid (rqB m = rqF m m.items.length) := Lib.hid rfl
  have CT := Lib.hid (fun (l : List (BitVec 8)) (u : World) (h : l.length ≤ 100000) => tx10_any l u (by omega))
  obtain ⟨y1, y2, p1, p2, p3, -, k1, k2, k3, k4, k5, -, kn⟩ := id hm
  have b0 := viB_len m.kind
  have b1 := viB_len m.acc
  have b2 := viB_len m.dev
  have b3 := txB_len m.pin
  have b4 := txB_len m.next
  have b5 := txB_len m.name
  have b6 := lsB_len hm.ls
  have b7 := pkB_len k2
  have b8' := psB_len k4 m.ones.length
  have b9 := viB_len m.ver
  have ba := viB_len ((m.items.length : Nat) : Int)
  have hH : (rqH m).length ≤ 2700000 := by rw [EH.out]; simp only [List.length_append]; omega
  have E := Lib.hid (Ev.start (w := w) (F := fun _ => True) fun _ _ => trivial)
  clear f1 f2 f3 hm hT k4
  obtain ⟨Fl, hFl⟩ : ∃ Fl, Fl = rqF m := ⟨_, rfl⟩
  rw [← hFl] at HE HL E0' EO
  clear hFl
  generalize rqB m = out at *
  generalize rqH m = G at *
  generalize lsB m.ls = B1 at *
  generalize psB m.ones m.ones.length = B2 at *
  generalize pkB m.signed = B3 at *
  generalize m.items.length = n at *
  go_enter Try.func25, Try.ntmps25
  go_upto_region 0 with fail; refine wp_region_lit ?_
  refine wpList_val (run_boxL8 (vs := rqR (.int .u8 m.kind) (.int .i64 m.acc) (.int .i64 m.dev) (.string (strOf m.pin)) (.string (strOf m.next)) (.string (strOf m.name)) (c1) (m.token.map b8) (pkC m.signed) (m.sig.map b8) (.slice a0 m.ones.length c0) (.int .i64 m.ver) (.slice ai n cc1)) rfl rfl) rfl ?_; (try simp only [Act.put, List.setIfInBounds_toArray, List.set_cons_zero, List.set_cons_succ])
  replace E := Lib.hid (E.out.new (rqR (.int .u8 m.kind) (.int .i64 m.acc) (.int .i64 m.dev) (.string (strOf m.pin)) (.string (strOf m.next)) (.string (strOf m.name)) (c1) (m.token.map b8) (pkC m.signed) (m.sig.map b8) (.slice a0 m.ones.length c0) (.int .i64 m.ver) (.slice ai n cc1)) 46)
  generalize w.alloc (.cells (rqR (.int .u8 m.kind) (.int .i64 m.acc) (.int .i64 m.dev) (.string (strOf m.pin)) (.string (strOf m.next)) (.string (strOf m.name)) (c1) (m.token.map b8) (pkC m.signed) (m.sig.map b8) (.slice a0 m.ones.length c0) (.int .i64 m.ver) (.slice ai n cc1)).toArray 46) = a1 at *
  generalize w.heap.size = g2 at *
  refine wpList_val (run_asg (v := .slice none 0 0) rfl rfl) rfl ?_; (try simp only [Act.put, List.setIfInBounds_toArray, List.set_cons_zero, List.set_cons_succ])
  refine wpList_end ?_
  go_upto_region 1 with fail
  refine wp_region_noPanic ?_; refine wp_region_late (S := fun _ V => Below a1.heap.size a1 V) (by kernel_rfl) ((Below.refl _ _).drew) (fun hS => ?_)
  have E0 := E
  replace E := Lib.hid (E.out.below hS)
  generalize a1.drew = a3 at *
  refine wpAnyL_take 0 rfl rfl (by kernel_rfl) (by kernel_rfl) (by kernel_rfl) (fun _ _ _ h => h) rfl (fun V hV => run_fad (s := 0) (k := 0) rfl Try.underlying46 rfl (by kernel_rfl) rfl rfl) hS ?_; (try simp only [Act.put, List.setIfInBounds_toArray, List.set_cons_zero, List.set_cons_succ])
  refine wpAnyL_take 1 rfl rfl (by kernel_rfl) (by kernel_rfl) (by kernel_rfl) (fun _ _ _ h => h) rfl (fun V hV => run_ldc rfl Try.underlying5 rfl rfl (((E0.out.below hV).get (i := 0) rfl).c 0 _ (rqR_Kind ))) hS ?_; (try simp only [Act.put, List.setIfInBounds_toArray, List.set_cons_zero, List.set_cons_succ])
  refine wpAnyL_take 2 rfl rfl (by kernel_rfl) (by kernel_rfl) (by kernel_rfl) (fun _ _ _ h => h) rfl (fun V hV => run_cv8iR rfl rfl y1 y2) hS ?_; (try simp only [Act.put, List.setIfInBounds_toArray, List.set_cons_zero, List.set_cons_succ])
  refine wpAnyL_take 4 rfl rfl (by kernel_rfl) (by kernel_rfl) (by kernel_rfl) (fun _ _ _ h => h) rfl (fun V hV => run_fad (s := 0) (k := 1) rfl Try.underlying46 rfl (by kernel_rfl) rfl rfl) hS ?_; (try simp only [Act.put, List.setIfInBounds_toArray, List.set_cons_zero, List.set_cons_succ])
  refine wpAnyL_take 5 rfl rfl (by kernel_rfl) (by kernel_rfl) (by kernel_rfl) (fun _ _ _ h => h) rfl (fun V hV => run_ldc rfl Try.underlying3 rfl rfl (((E0.out.below hV).get (i := 0) rfl).c 1 _ (rqR_Account ))) hS ?_; (try simp only [Act.put, List.setIfInBounds_toArray, List.set_cons_zero, List.set_cons_succ])
  refine wpAnyL_take 7 rfl rfl (by kernel_rfl) (by kernel_rfl) (by kernel_rfl) (fun _ _ _ h => h) rfl (fun V hV => run_fad (s := 0) (k := 2) rfl Try.underlying46 rfl (by kernel_rfl) rfl rfl) hS ?_; (try simp only [Act.put, List.setIfInBounds_toArray, List.set_cons_zero, List.set_cons_succ])
  refine wpAnyL_take 8 rfl rfl (by kernel_rfl) (by kernel_rfl) (by kernel_rfl) (fun _ _ _ h => h) rfl (fun V hV => run_ldc rfl Try.underlying3 rfl rfl (((E0.out.below hV).get (i := 0) rfl).c 2 _ (rqR_Device ))) hS ?_; (try simp only [Act.put, List.setIfInBounds_toArray, List.set_cons_zero, List.set_cons_succ])
  refine wpAnyL_take 10 rfl rfl (by kernel_rfl) (by kernel_rfl) (by kernel_rfl) (fun _ _ _ h => h) rfl (fun V hV => run_fad (s := 0) (k := 3) rfl Try.underlying46 rfl (by kernel_rfl) rfl rfl) hS ?_; (try simp only [Act.put, List.setIfInBounds_toArray, List.set_cons_zero, List.set_cons_succ])
  refine wpAnyL_take 11 rfl rfl (by kernel_rfl) (by kernel_rfl) (by kernel_rfl) (fun _ _ _ h => h) rfl (fun V hV => run_ldc rfl Try.underlying9 rfl rfl (((E0.out.below hV).get (i := 0) rfl).c 3 _ (rqR_Pin ))) hS ?_; (try simp only [Act.put, List.setIfInBounds_toArray, List.set_cons_zero, List.set_cons_succ])
  refine wpAnyL_take 13 rfl rfl (by kernel_rfl) (by kernel_rfl) (by kernel_rfl) (fun _ _ _ h => h) rfl (fun V hV => run_fad (s := 0) (k := 4) rfl Try.underlying46 rfl (by kernel_rfl) rfl rfl) hS ?_; (try simp only [Act.put, List.setIfInBounds_toArray, List.set_cons_zero, List.set_cons_succ])
  refine wpAnyL_take 14 rfl rfl (by kernel_rfl) (by kernel_rfl) (by kernel_rfl) (fun _ _ _ h => h) rfl (fun V hV => run_ldc rfl Try.underlying9 rfl rfl (((E0.out.below hV).get (i := 0) rfl).c 4 _ (rqR_Next ))) hS ?_; (try simp only [Act.put, List.setIfInBounds_toArray, List.set_cons_zero, List.set_cons_succ])
  refine wpAnyL_take 16 rfl rfl (by kernel_rfl) (by kernel_rfl) (by kernel_rfl) (fun _ _ _ h => h) rfl (fun V hV => run_fad (s := 0) (k := 5) rfl Try.underlying46 rfl (by kernel_rfl) rfl rfl) hS ?_; (try simp only [Act.put, List.setIfInBounds_toArray, List.set_cons_zero, List.set_cons_succ])
  refine wpAnyL_take 17 rfl rfl (by kernel_rfl) (by kernel_rfl) (by kernel_rfl) (fun _ _ _ h => h) rfl (fun V hV => run_ldc rfl Try.underlying9 rfl rfl (((E0.out.below hV).get (i := 0) rfl).c 5 _ (rqR_Name ))) hS ?_; (try simp only [Act.put, List.setIfInBounds_toArray, List.set_cons_zero, List.set_cons_succ])
  refine wpAnyL_take 19 rfl rfl (by kernel_rfl) (by kernel_rfl) (by kernel_rfl) (fun _ _ _ h => h) rfl (fun V hV => run_fad (s := 98) (k := 6) rfl Try.underlying46 rfl (by kernel_rfl) rfl rfl) hS ?_; (try simp only [Act.put, List.setIfInBounds_toArray, List.set_cons_zero, List.set_cons_succ])
  refine wpAnyL_take 20 rfl rfl (by kernel_rfl) (by kernel_rfl) (by kernel_rfl) (fun _ _ _ h => h) rfl (fun V hV => run_ldM (vs := c1) rfl Try.underlying40 rfl (szR l1 (by kernel_rfl)) rfl (((E0.out.below hV).get (i := 0) rfl).seg (rqR_List l1))) hS ?_; (try simp only [Act.put, List.setIfInBounds_toArray, List.set_cons_zero, List.set_cons_succ])
  refine wpAnyL_take 22 rfl rfl (by kernel_rfl) (by kernel_rfl) (by kernel_rfl) (fun _ _ _ h => h) rfl (fun V hV => run_fad (s := 31) (k := 105) rfl Try.underlying46 rfl (by kernel_rfl) rfl rfl) hS ?_; (try simp only [Act.put, List.setIfInBounds_toArray, List.set_cons_zero, List.set_cons_succ])
  refine wpAnyL_take 23 rfl rfl (by kernel_rfl) (by kernel_rfl) (by kernel_rfl) (fun _ _ _ h => h) rfl (fun V hV => run_ldM (vs := m.token.map b8) rfl Try.underlying35 rfl (szR (by rw [List.length_map, k1]) (by kernel_rfl)) rfl (((E0.out.below hV).get (i := 0) rfl).seg (rqR_Token l1 (by rw [List.length_map, k1])))) hS ?_; (try simp only [Act.put, List.setIfInBounds_toArray, List.set_cons_zero, List.set_cons_succ])
  refine wpAnyL_call 3 (by kernel_rfl) rfl rfl rfl (run_call1 enters_number10 rfl rfl rfl) (number10_any m.kind _) (fun v w h => hS.trans (h.bl.mono hS.size)) (fun v5 a4 hR => ?_); (try simp only [Act.put, List.setIfInBounds_toArray, List.set_cons_zero, List.set_cons_succ])
  have hb9 := hR.bl
  replace hS := hS.trans (hb9.mono hS.size)
  have hs9 := hR.sl
  obtain ⟨xa6, xc7, rfl, -, -⟩ := id hs9
  replace E := Lib.hid (E.out.call hb9 (fro_sl hR.O))
  clear hb9 hR hs9
  refine wpAnyL_call 6 (by kernel_rfl) rfl rfl rfl (run_call1 enters_number10 rfl rfl rfl) (number10_any m.acc _) (fun v w h => hS.trans (h.bl.mono hS.size)) (fun v9 a8 hR => ?_); (try simp only [Act.put, List.setIfInBounds_toArray, List.set_cons_zero, List.set_cons_succ])
  have hb9 := hR.bl
  replace hS := hS.trans (hb9.mono hS.size)
  have hs9 := hR.sl
  obtain ⟨xa10, xc11, rfl, -, -⟩ := id hs9
  replace E := Lib.hid (E.out.call hb9 (fro_sl hR.O))
  clear hb9 hR hs9
  refine wpAnyL_call 9 (by kernel_rfl) rfl rfl rfl (run_call1 enters_number10 rfl rfl rfl) (number10_any m.dev _) (fun v w h => hS.trans (h.bl.mono hS.size)) (fun v13 a12 hR => ?_); (try simp only [Act.put, List.setIfInBounds_toArray, List.set_cons_zero, List.set_cons_succ])
  have hb9 := hR.bl
  replace hS := hS.trans (hb9.mono hS.size)
  have hs9 := hR.sl
  obtain ⟨xa14, xc15, rfl, -, -⟩ := id hs9
  replace E := Lib.hid (E.out.call hb9 (fro_sl hR.O))
  clear hb9 hR hs9
  refine wpAnyL_call 12 (by kernel_rfl) rfl rfl rfl (run_call1 enters_text10 rfl rfl rfl) (CT.out m.pin _ p1) (fun v w h => hS.trans (h.bl.mono hS.size)) (fun v17 a16 hR => ?_); (try simp only [Act.put, List.setIfInBounds_toArray, List.set_cons_zero, List.set_cons_succ])
  have hb9 := hR.bl
  replace hS := hS.trans (hb9.mono hS.size)
  have hs9 := hR.sl
  obtain ⟨xa18, xc19, rfl, -, -⟩ := id hs9
  replace E := Lib.hid (E.out.call hb9 (fro_sl hR.O))
  clear hb9 hR hs9
  refine wpAnyL_call 15 (by kernel_rfl) rfl rfl rfl (run_call1 enters_text10 rfl rfl rfl) (CT.out m.next _ p2) (fun v w h => hS.trans (h.bl.mono hS.size)) (fun v21 a20 hR => ?_); (try simp only [Act.put, List.setIfInBounds_toArray, List.set_cons_zero, List.set_cons_succ])
  have hb9 := hR.bl
  replace hS := hS.trans (hb9.mono hS.size)
  have hs9 := hR.sl
  obtain ⟨xa22, xc23, rfl, -, -⟩ := id hs9
  replace E := Lib.hid (E.out.call hb9 (fro_sl hR.O))
  clear hb9 hR hs9
  refine wpAnyL_call 18 (by kernel_rfl) rfl rfl rfl (run_call1 enters_text10 rfl rfl rfl) (CT.out m.name _ p3) (fun v w h => hS.trans (h.bl.mono hS.size)) (fun v25 a24 hR => ?_); (try simp only [Act.put, List.setIfInBounds_toArray, List.set_cons_zero, List.set_cons_succ])
  have hb9 := hR.bl
  replace hS := hS.trans (hb9.mono hS.size)
  have hs9 := hR.sl
  obtain ⟨xa26, xc27, rfl, -, -⟩ := id hs9
  replace E := Lib.hid (E.out.call hb9 (fro_sl hR.O))
  clear hb9 hR hs9
  refine wpAnyL_call 21 (by kernel_rfl) rfl rfl rfl (run_call1 enters_list10 rfl rfl rfl) (C1.out _ E.out.bl) (fun v w h => hS.trans (h.bl.mono hS.size)) (fun v29 a28 hR => ?_); (try simp only [Act.put, List.setIfInBounds_toArray, List.set_cons_zero, List.set_cons_succ])
  have hb9 := hR.bl
  replace hS := hS.trans (hb9.mono hS.size)
  have hs9 := hR.sl
  obtain ⟨xa30, xc31, rfl, -, -⟩ := id hs9
  replace E := Lib.hid (E.out.call hb9 (fro_sl hR.O))
  clear hb9 hR hs9
  refine wpAnyL_call 24 (by kernel_rfl) rfl rfl rfl (run_call1 enters_key10 rfl rfl rfl) (key10_any m.token _ k1) (fun v w h => hS.trans (h.bl.mono hS.size)) (fun v33 a32 hR => ?_); (try simp only [Act.put, List.setIfInBounds_toArray, List.set_cons_zero, List.set_cons_succ])
  have hb9 := hR.bl
  replace hS := hS.trans (hb9.mono hS.size)
  have hs9 := hR.sl
  obtain ⟨xa34, xc35, rfl, -, -⟩ := id hs9
  replace E := Lib.hid (E.out.call hb9 (fro_sl hR.O))
  clear hb9 hR hs9
  have HC : Hid (Cat a32.heap.size [.slice xa6 (viB m.kind).length xc7, .slice xa10 (viB m.acc).length xc11, .slice xa14 (viB m.dev).length xc15, .slice xa18 (txB m.pin).length xc19, .slice xa22 (txB m.next).length xc23, .slice xa26 (txB m.name).length xc27, .slice xa30 (B1).length xc31, .slice xa34 (m.token).length xc35] [viB m.kind, viB m.acc, viB m.dev, txB m.pin, txB m.next, txB m.name, B1, m.token] (a32.alloc (.cells #[.slice xa6 (viB m.kind).length xc7, .slice xa10 (viB m.acc).length xc11, .slice xa14 (viB m.dev).length xc15, .slice xa18 (txB m.pin).length xc19, .slice xa22 (txB m.next).length xc23, .slice xa26 (txB m.name).length xc27, .slice xa30 (B1).length xc31, .slice xa34 (m.token).length xc35] 22))) := Lib.hid (cat_row a32 _ [viB m.kind, viB m.acc, viB m.dev, txB m.pin, txB m.next, txB m.name, B1, m.token] fun i hi => match i, hi with
    | 0, _ => ⟨_, rfl, E.out.h.2.2.2.2.2.2.2.1⟩
    | 1, _ => ⟨_, rfl, E.out.h.2.2.2.2.2.2.1⟩
    | 2, _ => ⟨_, rfl, E.out.h.2.2.2.2.2.1⟩
    | 3, _ => ⟨_, rfl, E.out.h.2.2.2.2.1⟩
    | 4, _ => ⟨_, rfl, E.out.h.2.2.2.1⟩
    | 5, _ => ⟨_, rfl, E.out.h.2.2.1⟩
    | 6, _ => ⟨_, rfl, E.out.h.2.1⟩
    | 7, _ => ⟨_, rfl, E.out.h.1⟩
    | i + 8, hi => absurd hi (by simp))
  refine wpAnyL_val 25 (by kernel_rfl) rfl rfl rfl (run_bsl (cells := #[.slice xa6 (viB m.kind).length xc7, .slice xa10 (viB m.acc).length xc11, .slice xa14 (viB m.dev).length xc15, .slice xa18 (txB m.pin).length xc19, .slice xa22 (txB m.next).length xc23, .slice xa26 (txB m.name).length xc27, .slice xa30 (B1).length xc31, .slice xa34 (m.token).length xc35]) (z := .slice none 0 0) rfl Try.underlying122 (by kernel_rfl) (by omega) (by omega) (by kernel_rfl)) (hS.alloc hS.size _) ?_; (try simp only [Act.put, List.setIfInBounds_toArray, List.set_cons_zero, List.set_cons_succ])
  replace E := Lib.hid (E.out.below (cat_belowA a32 #[.slice xa6 (viB m.kind).length xc7, .slice xa10 (viB m.acc).length xc11, .slice xa14 (viB m.dev).length xc15, .slice xa18 (txB m.pin).length xc19, .slice xa22 (txB m.next).length xc23, .slice xa26 (txB m.name).length xc27, .slice xa30 (B1).length xc31, .slice xa34 (m.token).length xc35] 22))
  replace hS := hS.alloc hS.size (.cells #[.slice xa6 (viB m.kind).length xc7, .slice xa10 (viB m.acc).length xc11, .slice xa14 (viB m.dev).length xc15, .slice xa18 (txB m.pin).length xc19, .slice xa22 (txB m.next).length xc23, .slice xa26 (txB m.name).length xc27, .slice xa30 (B1).length xc31, .slice xa34 (m.token).length xc35] 22)
  generalize a32.alloc (.cells #[.slice xa6 (viB m.kind).length xc7, .slice xa10 (viB m.acc).length xc11, .slice xa14 (viB m.dev).length xc15, .slice xa18 (txB m.pin).length xc19, .slice xa22 (txB m.next).length xc23, .slice xa26 (txB m.name).length xc27, .slice xa30 (B1).length xc31, .slice xa34 (m.token).length xc35] 22) = a36 at *
  generalize a32.heap.size = g37 at *
  refine wpAnyL_call 26 (by kernel_rfl) rfl rfl rfl (run_call1 enters_all10 rfl rfl rfl) (all10_any g37 _ [viB m.kind, viB m.acc, viB m.dev, txB m.pin, txB m.next, txB m.name, B1, m.token] 8 _ HC.out rfl (by omega) (by simp only [List.flatten_cons, List.flatten_nil, List.length_append, List.length_nil]; omega)) (fun v w h => hS.trans (h.bl.mono hS.size)) (fun V1 a38 hR => ?_); (try simp only [Act.put, List.setIfInBounds_toArray, List.set_cons_zero, List.set_cons_succ])
  have HV1 := Lib.hid (hR.mono E.out.bl)
  replace hS := hS.trans (hR.bl.mono hS.size)
  replace E := Lib.hid (E.out.below hR.bl)
  clear hR HC
  refine wpAnyL_take 27 rfl rfl (by kernel_rfl) (by kernel_rfl) (by kernel_rfl) (fun _ _ _ h => h) rfl (fun V hV => run_asg (v := V1) rfl rfl) hS ?_; (try simp only [Act.put, List.setIfInBounds_toArray, List.set_cons_zero, List.set_cons_succ])
  refine wpAnyL_done (by kernel_rfl) ?_ _; refine NoPanic.normal ?_
  have HI : Hid (Sl V1 G a38) := Lib.hid (by
    have h := HV1.out.sl
    rw [EH.out]
    simpa using h)
  obtain ⟨y0, cy0, hy0, -, -⟩ := id HI.out
  subst hy0
  clear HV1 hS
  have E1 := Lib.hid (E.out.knowH (H0 := fun _ => True) fun _ _ => trivial)
  clear E E0
  have E := E1
  clear E1
  go_upto_region 2 with fail
  refine wp_region_noPanic ?_; refine wp_region_late (S := fun _ V => Below a38.heap.size a38 V) (by kernel_rfl) ((Below.refl _ _).drew) (fun hS => ?_)
  have E0 := E
  replace E := Lib.hid (E.out.below hS)
  generalize a38.drew = a40 at *
  refine wpAnyL_take 0 rfl rfl (by kernel_rfl) (by kernel_rfl) (by kernel_rfl) (fun _ _ _ h => h) rfl (fun V hV => run_mv (v := .slice y0 (G).length cy0) rfl rfl) hS ?_; (try simp only [Act.put, List.setIfInBounds_toArray, List.set_cons_zero, List.set_cons_succ])
  refine wpAnyL_take 1 rfl rfl (by kernel_rfl) (by kernel_rfl) (by kernel_rfl) (fun _ _ _ h => h) rfl (fun V hV => run_fad (s := 32) (k := 137) rfl Try.underlying46 rfl (by kernel_rfl) rfl rfl) hS ?_; (try simp only [Act.put, List.setIfInBounds_toArray, List.set_cons_zero, List.set_cons_succ])
  refine wpAnyL_take 2 rfl rfl (by kernel_rfl) (by kernel_rfl) (by kernel_rfl) (fun _ _ _ h => h) rfl (fun V hV => run_ldM (vs := pkC m.signed) rfl Try.underlying42 rfl (szR (pkC_len' k2) (by kernel_rfl)) rfl (((E0.out.below hV).get (i := 0) rfl).seg (rqR_Signed l1 (by rw [List.length_map, k1]) (pkC_len' k2)))) hS ?_; (try simp only [Act.put, List.setIfInBounds_toArray, List.set_cons_zero, List.set_cons_succ])
  refine wpAnyL_take 4 rfl rfl (by kernel_rfl) (by kernel_rfl) (by kernel_rfl) (fun _ _ _ h => h) rfl (fun V hV => run_fad (s := 63) (k := 170) rfl Try.underlying46 rfl (by kernel_rfl) rfl rfl) hS ?_; (try simp only [Act.put, List.setIfInBounds_toArray, List.set_cons_zero, List.set_cons_succ])
  refine wpAnyL_take 5 rfl rfl (by kernel_rfl) (by kernel_rfl) (by kernel_rfl) (fun _ _ _ h => h) rfl (fun V hV => run_ldM (vs := m.sig.map b8) rfl Try.underlying38 rfl (szR (by rw [List.length_map, k3]) (by kernel_rfl)) rfl (((E0.out.below hV).get (i := 0) rfl).seg (rqR_Sig l1 (by rw [List.length_map, k1]) (pkC_len' k2) (by rw [List.length_map, k3])))) hS ?_; (try simp only [Act.put, List.setIfInBounds_toArray, List.set_cons_zero, List.set_cons_succ])
  refine wpAnyL_take 7 rfl rfl (by kernel_rfl) (by kernel_rfl) (by kernel_rfl) (fun _ _ _ h => h) rfl (fun V hV => run_fad (s := 0) (k := 234) rfl Try.underlying46 rfl (by kernel_rfl) rfl rfl) hS ?_; (try simp only [Act.put, List.setIfInBounds_toArray, List.set_cons_zero, List.set_cons_succ])
  refine wpAnyL_take 8 rfl rfl (by kernel_rfl) (by kernel_rfl) (by kernel_rfl) (fun _ _ _ h => h) rfl (fun V hV => run_ldc rfl Try.underlying43 rfl rfl (((E0.out.below hV).get (i := 0) rfl).c 234 _ (rqR_Ones l1 (by rw [List.length_map, k1]) (pkC_len' k2) (by rw [List.length_map, k3])))) hS ?_; (try simp only [Act.put, List.setIfInBounds_toArray, List.set_cons_zero, List.set_cons_succ])
  refine wpAnyL_take 10 rfl rfl (by kernel_rfl) (by kernel_rfl) (by kernel_rfl) (fun _ _ _ h => h) rfl (fun V hV => run_fad (s := 0) (k := 235) rfl Try.underlying46 rfl (by kernel_rfl) rfl rfl) hS ?_; (try simp only [Act.put, List.setIfInBounds_toArray, List.set_cons_zero, List.set_cons_succ])
  refine wpAnyL_take 11 rfl rfl (by kernel_rfl) (by kernel_rfl) (by kernel_rfl) (fun _ _ _ h => h) rfl (fun V hV => run_ldc rfl Try.underlying3 rfl rfl (((E0.out.below hV).get (i := 0) rfl).c 235 _ (rqR_Version l1 (by rw [List.length_map, k1]) (pkC_len' k2) (by rw [List.length_map, k3])))) hS ?_; (try simp only [Act.put, List.setIfInBounds_toArray, List.set_cons_zero, List.set_cons_succ])
  refine wpAnyL_take 13 rfl rfl (by kernel_rfl) (by kernel_rfl) (by kernel_rfl) (fun _ _ _ h => h) rfl (fun V hV => run_fad (s := 0) (k := 236) rfl Try.underlying46 rfl (by kernel_rfl) rfl rfl) hS ?_; (try simp only [Act.put, List.setIfInBounds_toArray, List.set_cons_zero, List.set_cons_succ])
  refine wpAnyL_take 14 rfl rfl (by kernel_rfl) (by kernel_rfl) (by kernel_rfl) (fun _ _ _ h => h) rfl (fun V hV => run_ldc rfl Try.underlying44 rfl rfl (((E0.out.below hV).get (i := 0) rfl).c 236 _ (rqR_Items l1 (by rw [List.length_map, k1]) (pkC_len' k2) (by rw [List.length_map, k3])))) hS ?_; (try simp only [Act.put, List.setIfInBounds_toArray, List.set_cons_zero, List.set_cons_succ])
  refine wpAnyL_take 15 rfl rfl (by kernel_rfl) (by kernel_rfl) (by kernel_rfl) (fun _ _ _ h => h) rfl (fun V hV => run_len rfl Try.underlying44 rfl) hS ?_; (try simp only [Act.put, List.setIfInBounds_toArray, List.set_cons_zero, List.set_cons_succ])
  refine wpAnyL_call 3 (by kernel_rfl) rfl rfl rfl (run_call1 enters_prekey10 rfl rfl rfl) (C3.out _) (fun v w h => hS.trans (h.bl.mono hS.size)) (fun v42 a41 hR => ?_); (try simp only [Act.put, List.setIfInBounds_toArray, List.set_cons_zero, List.set_cons_succ])
  have hb9 := hR.bl
  replace hS := hS.trans (hb9.mono hS.size)
  have hs9 := hR.sl
  obtain ⟨xa43, xc44, rfl, -, -⟩ := id hs9
  replace E := Lib.hid (E.out.call hb9 (fro_sl hR.O))
  clear hb9 hR hs9
  refine wpAnyL_call 6 (by kernel_rfl) rfl rfl rfl (run_call1 enters_sig10 rfl rfl rfl) (sig10_any m.sig _ k3) (fun v w h => hS.trans (h.bl.mono hS.size)) (fun v46 a45 hR => ?_); (try simp only [Act.put, List.setIfInBounds_toArray, List.set_cons_zero, List.set_cons_succ])
  have hb9 := hR.bl
  replace hS := hS.trans (hb9.mono hS.size)
  have hs9 := hR.sl
  obtain ⟨xa47, xc48, rfl, -, -⟩ := id hs9
  replace E := Lib.hid (E.out.call hb9 (fro_sl hR.O))
  clear hb9 hR hs9
  refine wpAnyL_call 9 (by kernel_rfl) rfl rfl rfl (run_call1 enters_prekeys10 rfl rfl rfl) (C2.out _ E.out.bl) (fun v w h => hS.trans (h.bl.mono hS.size)) (fun v50 a49 hR => ?_); (try simp only [Act.put, List.setIfInBounds_toArray, List.set_cons_zero, List.set_cons_succ])
  have hb9 := hR.bl
  replace hS := hS.trans (hb9.mono hS.size)
  have hs9 := hR.sl
  obtain ⟨xa51, xc52, rfl, -, -⟩ := id hs9
  replace E := Lib.hid (E.out.call hb9 (fro_sl hR.O))
  clear hb9 hR hs9
  refine wpAnyL_call 12 (by kernel_rfl) rfl rfl rfl (run_call1 enters_number10 rfl rfl rfl) (number10_any m.ver _) (fun v w h => hS.trans (h.bl.mono hS.size)) (fun v54 a53 hR => ?_); (try simp only [Act.put, List.setIfInBounds_toArray, List.set_cons_zero, List.set_cons_succ])
  have hb9 := hR.bl
  replace hS := hS.trans (hb9.mono hS.size)
  have hs9 := hR.sl
  obtain ⟨xa55, xc56, rfl, -, -⟩ := id hs9
  replace E := Lib.hid (E.out.call hb9 (fro_sl hR.O))
  clear hb9 hR hs9
  refine wpAnyL_call 16 (by kernel_rfl) rfl rfl rfl (run_call1 enters_number10 rfl rfl rfl) (number10_any ((n : Nat) : Int) _) (fun v w h => hS.trans (h.bl.mono hS.size)) (fun v58 a57 hR => ?_); (try simp only [Act.put, List.setIfInBounds_toArray, List.set_cons_zero, List.set_cons_succ])
  have hb9 := hR.bl
  replace hS := hS.trans (hb9.mono hS.size)
  have hs9 := hR.sl
  obtain ⟨xa59, xc60, rfl, -, -⟩ := id hs9
  replace E := Lib.hid (E.out.call hb9 (fro_sl hR.O))
  clear hb9 hR hs9
  have HC : Hid (Cat a57.heap.size [.slice y0 (G).length cy0, .slice xa43 (B3).length xc44, .slice xa47 (m.sig).length xc48, .slice xa51 (B2).length xc52, .slice xa55 (viB m.ver).length xc56, .slice xa59 (viB ((n : Nat) : Int)).length xc60] [G, B3, m.sig, B2, viB m.ver, viB ((n : Nat) : Int)] (a57.alloc (.cells #[.slice y0 (G).length cy0, .slice xa43 (B3).length xc44, .slice xa47 (m.sig).length xc48, .slice xa51 (B2).length xc52, .slice xa55 (viB m.ver).length xc56, .slice xa59 (viB ((n : Nat) : Int)).length xc60] 22))) := Lib.hid (cat_row a57 _ [G, B3, m.sig, B2, viB m.ver, viB ((n : Nat) : Int)] fun i hi => match i, hi with
    | 0, _ => ⟨_, rfl, (HI.out.below hS)⟩
    | 1, _ => ⟨_, rfl, E.out.h.2.2.2.2.1⟩
    | 2, _ => ⟨_, rfl, E.out.h.2.2.2.1⟩
    | 3, _ => ⟨_, rfl, E.out.h.2.2.1⟩
    | 4, _ => ⟨_, rfl, E.out.h.2.1⟩
    | 5, _ => ⟨_, rfl, E.out.h.1⟩
    | i + 6, hi => absurd hi (by simp))
  refine wpAnyL_val 17 (by kernel_rfl) rfl rfl rfl (run_bsl (cells := #[.slice y0 (G).length cy0, .slice xa43 (B3).length xc44, .slice xa47 (m.sig).length xc48, .slice xa51 (B2).length xc52, .slice xa55 (viB m.ver).length xc56, .slice xa59 (viB ((n : Nat) : Int)).length xc60]) (z := .slice none 0 0) rfl Try.underlying122 (by kernel_rfl) (by omega) (by omega) (by kernel_rfl)) (hS.alloc hS.size _) ?_; (try simp only [Act.put, List.setIfInBounds_toArray, List.set_cons_zero, List.set_cons_succ])
  replace E := Lib.hid (E.out.below (cat_belowA a57 #[.slice y0 (G).length cy0, .slice xa43 (B3).length xc44, .slice xa47 (m.sig).length xc48, .slice xa51 (B2).length xc52, .slice xa55 (viB m.ver).length xc56, .slice xa59 (viB ((n : Nat) : Int)).length xc60] 22))
  replace hS := hS.alloc hS.size (.cells #[.slice y0 (G).length cy0, .slice xa43 (B3).length xc44, .slice xa47 (m.sig).length xc48, .slice xa51 (B2).length xc52, .slice xa55 (viB m.ver).length xc56, .slice xa59 (viB ((n : Nat) : Int)).length xc60] 22)
  generalize a57.alloc (.cells #[.slice y0 (G).length cy0, .slice xa43 (B3).length xc44, .slice xa47 (m.sig).length xc48, .slice xa51 (B2).length xc52, .slice xa55 (viB m.ver).length xc56, .slice xa59 (viB ((n : Nat) : Int)).length xc60] 22) = a61 at *
  generalize a57.heap.size = g62 at *
  refine wpAnyL_call 18 (by kernel_rfl) rfl rfl rfl (run_call1 enters_all10 rfl rfl rfl) (all10_any g62 _ [G, B3, m.sig, B2, viB m.ver, viB ((n : Nat) : Int)] 6 _ HC.out rfl (by omega) (by simp only [List.flatten_cons, List.flatten_nil, List.length_append, List.length_nil]; omega)) (fun v w h => hS.trans (h.bl.mono hS.size)) (fun V2 a63 hR => ?_); (try simp only [Act.put, List.setIfInBounds_toArray, List.set_cons_zero, List.set_cons_succ])
  have HV2 := Lib.hid (hR.mono E.out.bl)
  replace hS := hS.trans (hR.bl.mono hS.size)
  replace E := Lib.hid (E.out.below hR.bl)
  clear hR HC
  refine wpAnyL_take 19 rfl rfl (by kernel_rfl) (by kernel_rfl) (by kernel_rfl) (fun _ _ _ h => h) rfl (fun V hV => run_asg (v := V2) rfl rfl) hS ?_; (try simp only [Act.put, List.setIfInBounds_toArray, List.set_cons_zero, List.set_cons_succ])
  refine wpAnyL_done (by kernel_rfl) ?_ _; refine NoPanic.normal ?_
  have hI : Hid (S5 w V2 (Fl 0) a63) := Lib.hid (by
    have h := HV2.out
    rw [E0'.out]
    simpa using h)
  clear HV2 HI hS
  have E1 := Lib.hid (E.out.knowH (H0 := fun _ => True) fun _ _ => trivial)
  clear E E0
  have E := E1
  clear E1
  go_upto_region 3 with fail; refine wp_region_lit ?_
  refine wpList_val (run_asg (v := .int .i64 0) rfl rfl) rfl ?_; (try simp only [Act.put, List.setIfInBounds_toArray, List.set_cons_zero, List.set_cons_succ])
  refine wpList_end ?_
  go_wp2_with fail
  go_loopw [3, 4] (fun s3 s4 u => ∃ i : Nat, i ≤ n ∧ s4 = .int .i64 (i : Int) ∧ S5 w s3 (Fl i) u ∧ Ev w [(g2, rqR (.int .u8 m.kind) (.int .i64 m.acc) (.int .i64 m.dev) (.string (strOf m.pin)) (.string (strOf m.next)) (.string (strOf m.name)) (c1) (m.token.map b8) (pkC m.signed) (m.sig.map b8) (.slice a0 m.ones.length c0) (.int .i64 m.ver) (.slice ai n cc1))] [] (fun _ => True) (fun _ => True) u) (fun _ s4 _ => (n - intOf s4).toNat)
  case atStart => exact ⟨0, by omega, rfl, hI.out, E.out⟩
  case round =>
    obtain ⟨i, hi, rfl, hJ, hE⟩ := hrel
    replace hI := Lib.hid hJ
    replace E := Lib.hid hE
    clear hJ hE
    have hfl := HL.out i hi
    by_cases hik : i = n
    · subst hik
      go_upto_region 4 with fail; refine wp_region_lit ?_
      refine wpList_val (run_mv (v := .int .i64 (i : Int)) rfl rfl) rfl ?_; (try simp only [Act.put, List.setIfInBounds_toArray, List.set_cons_zero, List.set_cons_succ])
      refine wpList_val (run_fad (s := 0) (k := 236) rfl Try.underlying46 rfl (by kernel_rfl) rfl rfl) rfl ?_; (try simp only [Act.put, List.setIfInBounds_toArray, List.set_cons_zero, List.set_cons_succ])
      refine wpList_val (run_ldc rfl Try.underlying44 rfl rfl ((E.out.get (i := 0) rfl).c 236 _ (rqR_Items l1 (by rw [List.length_map, k1]) (pkC_len' k2) (by rw [List.length_map, k3])))) rfl ?_; (try simp only [Act.put, List.setIfInBounds_toArray, List.set_cons_zero, List.set_cons_succ])
      refine wpList_val (run_len rfl Try.underlying44 rfl) rfl ?_; (try simp only [Act.put, List.setIfInBounds_toArray, List.set_cons_zero, List.set_cons_succ])
      refine wpList_val (run_lssb (c := false) rfl rfl rfl (decide_eq_false (by omega))) rfl ?_; (try simp only [Act.put, List.setIfInBounds_toArray, List.set_cons_zero, List.set_cons_succ])
      refine wpList_end ?_
      go_upto_region 7 with fail; refine wp_region_lit ?_
      refine wpList_val (run_mv (v := u3) rfl rfl) rfl ?_; (try simp only [Act.put, List.setIfInBounds_toArray, List.set_cons_zero, List.set_cons_succ])
      refine wpList_val (run_asg (v := u3) rfl rfl) rfl ?_; (try simp only [Act.put, List.setIfInBounds_toArray, List.set_cons_zero, List.set_cons_succ])
      refine wpList_end ?_
      have hO : Hid (S5 w u3 out wr) := Lib.hid (by rw [EO.out]; exact hI.out)
      go_wp2_with fail
      exact bodyPost_ret (results_tmp Try.results25 _ _ _) rfl ⟨_, rfl, hO.out⟩
    · go_upto_region 4 with fail; refine wp_region_lit ?_
      refine wpList_val (run_mv (v := .int .i64 (i : Int)) rfl rfl) rfl ?_; (try simp only [Act.put, List.setIfInBounds_toArray, List.set_cons_zero, List.set_cons_succ])
      refine wpList_val (run_fad (s := 0) (k := 236) rfl Try.underlying46 rfl (by kernel_rfl) rfl rfl) rfl ?_; (try simp only [Act.put, List.setIfInBounds_toArray, List.set_cons_zero, List.set_cons_succ])
      refine wpList_val (run_ldc rfl Try.underlying44 rfl rfl ((E.out.get (i := 0) rfl).c 236 _ (rqR_Items l1 (by rw [List.length_map, k1]) (pkC_len' k2) (by rw [List.length_map, k3])))) rfl ?_; (try simp only [Act.put, List.setIfInBounds_toArray, List.set_cons_zero, List.set_cons_succ])
      refine wpList_val (run_len rfl Try.underlying44 rfl) rfl ?_; (try simp only [Act.put, List.setIfInBounds_toArray, List.set_cons_zero, List.set_cons_succ])
      refine wpList_val (run_lssb (c := true) rfl rfl rfl (decide_eq_true (by omega))) rfl ?_; (try simp only [Act.put, List.setIfInBounds_toArray, List.set_cons_zero, List.set_cons_succ])
      refine wpList_end ?_
      have HI := Lib.hid hI.out.sl
      obtain ⟨yy, cy, hy, -, -⟩ := id HI.out
      subst hy
      obtain ⟨g, f, d, kk, ob, rfl, hx, hlen, hk, hc, hr, hce⟩ := HE.out i (by omega)
      have HX := Lib.hid hx
      have HC1 := Lib.hid hc
      have HR1 := Lib.hid hr
      have CE := Lib.hid hce
      clear hx hc hr hce
      have bd := viB_len d
      go_upto_region 6 with fail
      refine wp_region_noPanic ?_; refine wp_region_late (S := fun _ V => Below wr.heap.size wr V) (by kernel_rfl) ((Below.refl _ _).drew) (fun hS => ?_)
      have E0 := E
      replace E := Lib.hid (E.out.below hS)
      generalize wr.drew = a65 at *
      refine wpAnyL_take 0 rfl rfl (by kernel_rfl) (by kernel_rfl) (by kernel_rfl) (fun _ _ _ h => h) rfl (fun V hV => run_mv (v := .slice yy (Fl i).length cy) rfl rfl) hS ?_; (try simp only [Act.put, List.setIfInBounds_toArray, List.set_cons_zero, List.set_cons_succ])
      refine wpAnyL_take 1 rfl rfl (by kernel_rfl) (by kernel_rfl) (by kernel_rfl) (fun _ _ _ h => h) rfl (fun V hV => run_fad (s := 0) (k := 236) rfl Try.underlying46 rfl (by kernel_rfl) rfl rfl) hS ?_; (try simp only [Act.put, List.setIfInBounds_toArray, List.set_cons_zero, List.set_cons_succ])
      refine wpAnyL_take 2 rfl rfl (by kernel_rfl) (by kernel_rfl) (by kernel_rfl) (fun _ _ _ h => h) rfl (fun V hV => run_ldc rfl Try.underlying44 rfl rfl (((E0.out.below hV).get (i := 0) rfl).c 236 _ (rqR_Items l1 (by rw [List.length_map, k1]) (pkC_len' k2) (by rw [List.length_map, k3])))) hS ?_; (try simp only [Act.put, List.setIfInBounds_toArray, List.set_cons_zero, List.set_cons_succ])
      refine wpAnyL_take 3 rfl rfl (by kernel_rfl) (by kernel_rfl) (by kernel_rfl) (fun _ _ _ h => h) rfl (fun V hV => run_mv (v := .int .i64 (i : Int)) rfl rfl) hS ?_; (try simp only [Act.put, List.setIfInBounds_toArray, List.set_cons_zero, List.set_cons_succ])
      refine wpAnyL_take 4 rfl rfl (by kernel_rfl) (by kernel_rfl) (by kernel_rfl) (fun _ _ _ h => h) rfl (fun V hV => run_ixZ (z := 73) (i := i) rfl Try.underlying44 (by kernel_rfl) rfl rfl (by omega)) hS ?_; (try simp only [Act.put, List.setIfInBounds_toArray, List.set_cons_zero, List.set_cons_succ])
      refine wpAnyL_take 5 rfl rfl (by kernel_rfl) (by kernel_rfl) (by kernel_rfl) (fun _ _ _ h => h) rfl (fun V hV => run_fad (s := 0) (k := 0) rfl Try.underlying70 rfl (by kernel_rfl) rfl rfl) hS ?_; (try simp only [Act.put, List.setIfInBounds_toArray, List.set_cons_zero, List.set_cons_succ])
      refine wpAnyL_take 6 rfl rfl (by kernel_rfl) (by kernel_rfl) (by kernel_rfl) (fun _ _ _ h => h) rfl (fun V hV => run_ldi rfl rfl (HC1.out _ ((E0.out.below hV).bl))) hS ?_; (try simp only [Act.put, List.setIfInBounds_toArray, List.set_cons_zero, List.set_cons_succ])
      refine wpAnyL_take 8 rfl rfl (by kernel_rfl) (by kernel_rfl) (by kernel_rfl) (fun _ _ _ h => h) rfl (fun V hV => run_fad (s := 0) (k := 236) rfl Try.underlying46 rfl (by kernel_rfl) rfl rfl) hS ?_; (try simp only [Act.put, List.setIfInBounds_toArray, List.set_cons_zero, List.set_cons_succ])
      refine wpAnyL_take 9 rfl rfl (by kernel_rfl) (by kernel_rfl) (by kernel_rfl) (fun _ _ _ h => h) rfl (fun V hV => run_ldc rfl Try.underlying44 rfl rfl (((E0.out.below hV).get (i := 0) rfl).c 236 _ (rqR_Items l1 (by rw [List.length_map, k1]) (pkC_len' k2) (by rw [List.length_map, k3])))) hS ?_; (try simp only [Act.put, List.setIfInBounds_toArray, List.set_cons_zero, List.set_cons_succ])
      refine wpAnyL_take 10 rfl rfl (by kernel_rfl) (by kernel_rfl) (by kernel_rfl) (fun _ _ _ h => h) rfl (fun V hV => run_mv (v := .int .i64 (i : Int)) rfl rfl) hS ?_; (try simp only [Act.put, List.setIfInBounds_toArray, List.set_cons_zero, List.set_cons_succ])
      refine wpAnyL_take 11 rfl rfl (by kernel_rfl) (by kernel_rfl) (by kernel_rfl) (fun _ _ _ h => h) rfl (fun V hV => run_ixZ (z := 73) (i := i) rfl Try.underlying44 (by kernel_rfl) rfl rfl (by omega)) hS ?_; (try simp only [Act.put, List.setIfInBounds_toArray, List.set_cons_zero, List.set_cons_succ])
      refine wpAnyL_take 12 rfl rfl (by kernel_rfl) (by kernel_rfl) (by kernel_rfl) (fun _ _ _ h => h) rfl (fun V hV => run_fad (s := 71) (k := 1) rfl Try.underlying70 rfl (by kernel_rfl) rfl rfl) hS ?_; (try simp only [Act.put, List.setIfInBounds_toArray, List.set_cons_zero, List.set_cons_succ])
      refine wpAnyL_take 13 rfl rfl (by kernel_rfl) (by kernel_rfl) (by kernel_rfl) (fun _ _ _ h => h) rfl (fun V hV => run_ldM (vs := kk) rfl Try.underlying64 rfl (szR hk (by kernel_rfl)) rfl (HR1.out _ ((E0.out.below hV).bl))) hS ?_; (try simp only [Act.put, List.setIfInBounds_toArray, List.set_cons_zero, List.set_cons_succ])
      refine wpAnyL_call 7 (by kernel_rfl) rfl rfl rfl (run_call1 enters_number10 rfl rfl rfl) (number10_any d _) (fun v w h => hS.trans (h.bl.mono hS.size)) (fun v67 a66 hR => ?_); (try simp only [Act.put, List.setIfInBounds_toArray, List.set_cons_zero, List.set_cons_succ])
      have hb9 := hR.bl
      replace hS := hS.trans (hb9.mono hS.size)
      have hs9 := hR.sl
      obtain ⟨xa68, xc69, rfl, -, -⟩ := id hs9
      replace E := Lib.hid (E.out.call hb9 (fro_sl hR.O))
      clear hb9 hR hs9
      refine wpAnyL_call 14 (by kernel_rfl) rfl rfl rfl (run_call1 enters_envelope10 rfl rfl rfl) (CE.out _ E.out.bl) (fun v w h => hS.trans (h.bl.mono hS.size)) (fun v71 a70 hR => ?_); (try simp only [Act.put, List.setIfInBounds_toArray, List.set_cons_zero, List.set_cons_succ])
      have hb9 := hR.bl
      replace hS := hS.trans (hb9.mono hS.size)
      have hs9 := hR.sl
      obtain ⟨xa72, xc73, rfl, -, -⟩ := id hs9
      replace E := Lib.hid (E.out.call hb9 (fro_sl hR.O))
      clear hb9 hR hs9
      have HC : Hid (Cat a70.heap.size [.slice yy (Fl i).length cy, .slice xa68 (viB d).length xc69, .slice xa72 (ob).length xc73] [Fl i, viB d, ob] (a70.alloc (.cells #[.slice yy (Fl i).length cy, .slice xa68 (viB d).length xc69, .slice xa72 (ob).length xc73] 22))) := Lib.hid (cat_row a70 _ [Fl i, viB d, ob] fun i hi => match i, hi with
        | 0, _ => ⟨_, rfl, (HI.out.below hS)⟩
        | 1, _ => ⟨_, rfl, E.out.h.2.1⟩
        | 2, _ => ⟨_, rfl, E.out.h.1⟩
        | i + 3, hi => absurd hi (by simp))
      refine wpAnyL_val 15 (by kernel_rfl) rfl rfl rfl (run_bsl (cells := #[.slice yy (Fl i).length cy, .slice xa68 (viB d).length xc69, .slice xa72 (ob).length xc73]) (z := .slice none 0 0) rfl Try.underlying122 (by kernel_rfl) (by omega) (by omega) (by kernel_rfl)) (hS.alloc hS.size _) ?_; (try simp only [Act.put, List.setIfInBounds_toArray, List.set_cons_zero, List.set_cons_succ])
      replace E := Lib.hid (E.out.below (cat_belowA a70 #[.slice yy (Fl i).length cy, .slice xa68 (viB d).length xc69, .slice xa72 (ob).length xc73] 22))
      replace hS := hS.alloc hS.size (.cells #[.slice yy (Fl i).length cy, .slice xa68 (viB d).length xc69, .slice xa72 (ob).length xc73] 22)
      generalize a70.alloc (.cells #[.slice yy (Fl i).length cy, .slice xa68 (viB d).length xc69, .slice xa72 (ob).length xc73] 22) = a74 at *
      generalize a70.heap.size = g75 at *
      refine wpAnyL_call 16 (by kernel_rfl) rfl rfl rfl (run_call1 enters_all10 rfl rfl rfl) (all10_any g75 _ [Fl i, viB d, ob] 3 _ HC.out rfl (by omega) (by simp only [List.flatten_cons, List.flatten_nil, List.length_append, List.length_nil]; omega)) (fun v w h => hS.trans (h.bl.mono hS.size)) (fun V3 a76 hR => ?_); (try simp only [Act.put, List.setIfInBounds_toArray, List.set_cons_zero, List.set_cons_succ])
      have HV3 := Lib.hid (hR.mono E.out.bl)
      replace hS := hS.trans (hR.bl.mono hS.size)
      replace E := Lib.hid (E.out.below hR.bl)
      clear hR HC
      refine wpAnyL_take 17 rfl rfl (by kernel_rfl) (by kernel_rfl) (by kernel_rfl) (fun _ _ _ h => h) rfl (fun V hV => run_asg (v := V3) rfl rfl) hS ?_; (try simp only [Act.put, List.setIfInBounds_toArray, List.set_cons_zero, List.set_cons_succ])
      refine wpAnyL_done (by kernel_rfl) ?_ _; refine NoPanic.normal ?_
      go_upto_region 5 with fail; refine wp_region_lit ?_
      refine wpList_val (run_mv (v := .int .i64 (i : Int)) rfl rfl) rfl ?_; (try simp only [Act.put, List.setIfInBounds_toArray, List.set_cons_zero, List.set_cons_succ])
      refine wpList_val (run_addN (a := i) (b := 1) rfl rfl rfl (by omega)) rfl ?_; (try simp only [Act.put, List.setIfInBounds_toArray, List.set_cons_zero, List.set_cons_succ])
      refine wpList_val (run_asg (v := .int .i64 ((i + 1 : Nat) : Int)) rfl rfl) rfl ?_; (try simp only [Act.put, List.setIfInBounds_toArray, List.set_cons_zero, List.set_cons_succ])
      refine wpList_end ?_
      go_wp2_with fail
      exact ⟨⟨i + 1, by omega, rfl, by rw [HX.out]; have h := HV3.out; simpa using h, E.out.knowH fun _ _ => trivial⟩, by simp [intOf]; omega⟩
end Go.Proofs.Ytgioojahadlmhaa
