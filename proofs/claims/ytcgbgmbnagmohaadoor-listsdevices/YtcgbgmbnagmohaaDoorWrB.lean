import Derived.Test.YtcgbgmbnagmohaaDoorCatL
import Derived.Test.YtcgbgmbnagmohaaDoorMixB
import Derived.Test.YtcgbgmbnagmohaaDoorMixB
import Derived.Test.YtcgbgmbnagmohaaDoorStr
import Derived.Laws.IdiomStrings
import Derived.Test.YtcgbgmbnagmohaaDoorLateG
import Derived.Test.YtcgbgmbnagmohaaDoorGw
import Derived.Test.YtcgbgmbnagmohaaDoorTy10
import Derived.Test.YtcgbgmbnagmohaaDoorCpy
import Derived.Test.YtcgbgmbnagmohaaDoorEdRes
namespace Go.Proofs.YtcgbgmbnagmohaaDoor
open Go.RowKit
set_option maxRecDepth 20000
section
variable {w : World} {ρ : Operand → Value} {o : Oper} {x y : Operand} {t t' : TypeId}
theorem run_minI {a b : Int} (ts : Array TypeId) (ho : o.op = .call { callee := .builtin .min, args := #[x, y], argTypes := ts }) (hx : ρ x = .int .i64 a) (hy : ρ y = .int .i64 b) : (execOp ρ o).run Tryd.prog w = .ok (.value (.int .i64 (min a b))) w := by
 unfold execOp
 have h := run_min_int2 (P := Tryd.prog) (w := w) ts o.type .i64 .i64 a b
 have e : (if b < a then b else a) = min a b := by split <;> omega
 rw [e] at h
 simp [ho, resolve, invoke, builtin, hx, hy, h, Result.andThen]
theorem run_maxI {a b : Int} (ts : Array TypeId) (ho : o.op = .call { callee := .builtin .max, args := #[x, y], argTypes := ts }) (hx : ρ x = .int .i64 a) (hy : ρ y = .int .i64 b) : (execOp ρ o).run Tryd.prog w = .ok (.value (.int .i64 (max a b))) w := by
 unfold execOp
 have h := run_max_int2 (P := Tryd.prog) (w := w) ts o.type .i64 .i64 a b
 have e : (if b > a then b else a) = max a b := by split <;> omega
 rw [e] at h
 simp [ho, resolve, invoke, builtin, hx, hy, h, Result.andThen]
end
def viF : Nat → Nat → List (BitVec 8)
 | 0, n => [BitVec.ofNat 8 n]
 | k + 1, n => if n ≤ 127 then [BitVec.ofNat 8 n] else BitVec.ofNat 8 (n % 128 + 128) :: viF k (n / 128)
def clN (n : Int) : Nat := (max 0 (min n 1099511627776)).toNat
def viB (n : Int) : List (BitVec 8) := viF 5 (clN n)
theorem viF_len : ∀ k n, (viF k n).length ≤ k + 1
 | 0, _ => by simp [viF]
 | k + 1, n => by
  rw [viF]; split
  ·simp
  ·have := viF_len k (n / 128); simp; omega
theorem viB_len (n : Int) : (viB n).length ≤ 6 := viF_len 5 _
theorem viF_pos (k n : Nat) : 0 < (viF k n).length := by
 cases k with
 | zero => simp [viF]
 | succ k => rw [viF]; split <;> simp
theorem clN_le (n : Int) : clN n ≤ 1099511627776 := by unfold clN; omega
structure NuI (n : Nat) (pre : List (BitVec 8)) (m : Nat) : Prop where
 ex : ∃ k, viF 5 n = pre ++ viF k m ∧ m < 128 ^ (k + 1) ∧ pre.length + k ≤ 5
theorem NuI.start {n : Nat} (h : n ≤ 1099511627776) : NuI n [] n := ⟨5, rfl, by omega, by simp⟩
theorem NuI.step {n m : Nat} {pre : List (BitVec 8)} (h : NuI n pre m) (hm : 127 < m) : NuI n (pre ++ [BitVec.ofNat 8 (m % 128 + 128)]) (m / 128) := by
 obtain ⟨k, e, h1, h2⟩ := h.ex
 cases k with
 | zero => omega
 | succ k =>
  refine ⟨k, ?_, ?_, by rw [List.length_append]; simp; omega⟩
  ·rw [e, viF, if_neg (by omega), List.append_assoc]; rfl
  ·rw [Nat.pow_succ] at h1
   exact Nat.div_lt_of_lt_mul (by rwa [Nat.mul_comm] at h1)
theorem NuI.done {n m : Nat} {pre : List (BitVec 8)} (h : NuI n pre m) (hm : m ≤ 127) : viF 5 n = pre ++ [BitVec.ofNat 8 m] := by
 obtain ⟨k, e, _, _⟩ := h.ex
 cases k with
 | zero => exact e
 | succ k => rw [e, viF, if_pos hm]
theorem NuI.len {n m : Nat} {pre : List (BitVec 8)} (h : NuI n pre m) : pre.length ≤ 5 := by obtain ⟨k, _, _, h2⟩ := h.ex; omega
theorem NuI.le {n m : Nat} {pre : List (BitVec 8)} (h : NuI n pre m) : m < 4398046511104 := by
 obtain ⟨k, _, h1, h2⟩ := h.ex
 have : 128 ^ (k + 1) ≤ 128 ^ 6 := Nat.pow_le_pow_right (by omega) (by omega)
 omega
end Go.Proofs.YtcgbgmbnagmohaaDoor
namespace Go.Proofs.YtcgbgmbnagmohaaDoor
open Go.RowKit
set_option maxRecDepth 20000
structure Tl (w : World) (v : Value) (l : List (BitVec 8)) (u : World) : Prop where
 bl : Below w.heap.size w u
 s : Sl v l u
theorem Tl.of {w u : World} {v : Value} {l : List (BitVec 8)} (h : S5 w v l u) : Tl w v l u := ⟨h.bl, h.sl⟩
def trB (b : Bool) : List (BitVec 8) := [if b then 1 else 0]
end Go.Proofs.YtcgbgmbnagmohaaDoor
namespace Go.Proofs.YtcgbgmbnagmohaaDoor
open Go.RowKit
set_option maxRecDepth 20000
section
variable {w : World} {ρ : Operand → Value} {o : Oper} {x y : Operand} {t t' : TypeId}
end
end Go.Proofs.YtcgbgmbnagmohaaDoor
namespace Go.Proofs.YtcgbgmbnagmohaaDoor
open Go.RowKit
set_option maxRecDepth 20000
structure MPk where
 id : Int
 key : List (BitVec 8)
def pkC (p : MPk) : List Value := .int .i64 p.id :: p.key.map b8
def pkB (p : MPk) : List (BitVec 8) := viB p.id ++ p.key
theorem qa9 {p : MPk} (h : p.key.length = 32) : (pkC p).length = 33 := by unfold pkC; rw [List.length_cons, List.length_map, h]
structure MHd where
 r : List (BitVec 8)
 prev : Int
 n : Int
def hdB (h : MHd) : List (BitVec 8) := h.r ++ viB h.prev ++ viB h.n
end Go.Proofs.YtcgbgmbnagmohaaDoor
namespace Go.Proofs.YtcgbgmbnagmohaaDoor
open Go.RowKit
set_option maxRecDepth 20000
section
variable {w : World} {ρ : Operand → Value} {o : Oper} {t t' e : TypeId} {x y : Operand}
theorem qcl {z g i off n c : Nat} {k : IntKind} (ho : o.op = .indexAddr t x y) (ht : Tryd.prog.underlying t = some (.slice e)) (hs : (Tryd.prog.info? e).map (·.size) = some z) (hx : ρ x = .slice (some ⟨g, off, none⟩) n c) (hy : ρ y = .int k (i : Int)) (hi : i < n) : (execOp ρ o).run Tryd.prog w = .ok (.value (.pointer (some ⟨g, off + i * z, none⟩))) w := by
 have el : Tryd.prog.elem t = e := by unfold Program.elem; rw [ht]
 have h := run_indexAt_slice (P := Tryd.prog) (w := w) t ⟨g, off, none⟩ n c k (i : Int) (by rw [el]; exact ht)
 rw [el, if_pos ⟨by omega, by omega⟩] at h
 obtain ⟨inf, h1, h2⟩ := Option.map_eq_some_iff.1 hs
 have hz : (sizeOf e).run Tryd.prog w = .ok z w := by simp [sizeOf, typeInfo, go_sem, h1, h2]
 rw [hz] at h
 unfold execOp
 simp only [ho, hx, hy, Sem.run_bind, h]
 simp [go_sem, Addr.add_mid]
theorem run_geqI {k : IntKind} {a b : Int} {c : Bool} (ho : o.op = .binOp .geq t x y t') (hx : ρ x = .int k a) (hy : ρ y = .int k b) (h : decide (b ≤ a) = c) : (execOp ρ o).run Tryd.prog w = .ok (.value (.bool c)) w := by
 obtain ⟨dst, op, type, pos, after, guard⟩ := o
 subst ho
 subst h
 go_simp
end
structure Lz (z : Nat) (a : Option Addr) (cs : List (List Value)) (c : Nat) (u : World) : Prop where
 cap : cs.length ≤ c
 each : ∀ x ∈ cs, x.length = z
 at_ : cs ≠ [] → ∃ g f, a = some ⟨g, f, none⟩ ∧ g < u.heap.size ∧ u.rangeAt g f cs.flatten
theorem Lz.below {z : Nat} {a : Option Addr} {cs : List (List Value)} {c : Nat} {u u' : World} (h : Lz z a cs c u) (hb : Below u.heap.size u u') : Lz z a cs c u' :=
 ⟨h.cap, h.each, fun hn => by obtain ⟨g, f, h1, h2, h3⟩ := h.at_ hn; exact ⟨g, f, h1, Nat.lt_of_lt_of_le h2 hb.size, qb9 h3 h2 hb⟩⟩
theorem flat_len {z : Nat} : ∀ {cs : List (List Value)}, (∀ x ∈ cs, x.length = z) → cs.flatten.length = cs.length * z
 | [], _ => by simp
 | x :: cs, h => by
  rw [List.flatten_cons, List.length_append, flat_len (fun y hy => h y (List.mem_cons_of_mem _ hy)), h x (List.mem_cons_self ..), List.length_cons, Nat.succ_mul, Nat.add_comm]
theorem Lz.get {z : Nat} {a : Option Addr} {cs : List (List Value)} {c : Nat} {u : World} (h : Lz z a cs c u) {i : Nat} (hi : i < cs.length) : ∃ g f, a = some ⟨g, f, none⟩ ∧ g < u.heap.size ∧ u.rangeAt g (f + i * z) (cs.getD i []) := by
 obtain ⟨g, f, h1, h2, h3⟩ := h.at_ (by intro e; rw [e] at hi; cases hi)
 refine ⟨g, f, h1, h2, ?_⟩
 have e1 : cs = cs.take i ++ (cs[i] :: cs.drop (i + 1)) := by rw [← List.drop_eq_getElem_cons hi, List.take_append_drop]
 have hl : ((cs.take i).flatten).length = i * z := by
  rw [flat_len (fun x hx => h.each x (List.mem_of_mem_take hx)), List.length_take, Nat.min_eq_left (by omega)]
 have e2 : cs.flatten = (cs.take i).flatten ++ (cs[i] ++ (cs.drop (i + 1)).flatten) := by
  conv => lhs; rw [e1]
  rw [List.flatten_append, List.flatten_cons]
 rw [e2] at h3
 have h4 := qcd (k := (cs.take i).flatten.length) h3
 rw [List.drop_left' rfl, hl] at h4
 have h5 := qcc (k := cs[i].length) h4
 rw [List.take_left' rfl] at h5
 rw [show cs.getD i [] = cs[i] by simp [hi]]
 exact h5
theorem pkB_len {p : MPk} (h : p.key.length = 32) : (pkB p).length ≤ 38 := by have := viB_len p.id; unfold pkB; rw [List.length_append]; omega
end Go.Proofs.YtcgbgmbnagmohaaDoor
namespace Go.Proofs.YtcgbgmbnagmohaaDoor
open Go.RowKit
set_option maxRecDepth 20000
attribute [local irreducible] wpList
theorem qa7 (n : Nat) : (z8 n).length = n := by unfold z8; rw [List.length_map, List.length_replicate]
section
variable {w : World} {ρ : Operand → Value} {o : Oper} {t t' : TypeId} {x y : Operand}
end
end Go.Proofs.YtcgbgmbnagmohaaDoor
namespace Go.Proofs.YtcgbgmbnagmohaaDoor
open Go.RowKit
set_option maxRecDepth 20000
attribute [local irreducible] wpList
theorem Sl.ext {v : Value} {l : List (BitVec 8)} {u V : World} (h : Sl v l u) (hV : Ext 0 [] u V) : Sl v l V := by
 obtain ⟨ao, c, h1, h2, h3⟩ := h
 refine ⟨ao, c, h1, h2, fun hn => ?_⟩
 obtain ⟨b, f, h4, h5, h6⟩ := h3 hn
 exact ⟨b, f, h4, Nat.lt_of_lt_of_le h5 hV.size, fun j x hx => (World.cell?_of_block (a := ⟨b, f + j, none⟩) (hV.block b (Nat.zero_le _) h5 (by simp))).trans (h6 j x hx)⟩
theorem Ev.drop {w u : World} {L : List (Nat × List Value)} {K : List Nat} {F H : World → Prop} {p : Nat × List Value} (h : Ev w (p :: L) K F H u) : Ev w L K F H u :=
 have hm : ∀ b ∈ K ++ L.map (·.1), b ∈ K ++ (p :: L).map (·.1) := fun b hb => by
  rcases List.mem_append.1 hb with hb | hb
  ·exact List.mem_append.2 (.inl hb)
  ·exact List.mem_append.2 (.inr (List.mem_cons_of_mem _ hb))
 ⟨h.mv.drop, h.kb, fun V hV => h.fs V (hV.mono (Nat.le_refl _) hm), fun V hV => h.hs V (hV.mono (Nat.le_refl _) hm)⟩
section
variable {w : World} {ρ : Operand → Value} {o : Oper} {t t' : TypeId} {x y : Operand} {a b : Nat}
theorem qb0 (ho : o.op = .binOp .rem 5 x y t') (hx : ρ x = .int .u8 (a : Int)) (hy : ρ y = .int .u8 (b : Int)) (ha : a < 256) (h2 : 0 < b) : (execOp ρ o).run Tryd.prog w = .ok (.value (.int .u8 ((a % b : Nat) : Int))) w := by
 obtain ⟨dst, op, type, pos, after, guard⟩ := o
 subst ho
 have e : ((a : Int).tmod (b : Int)) = ((a % b : Nat) : Int) := by rw [Int.natCast_emod, Int.tmod_eq_emod_of_nonneg (by omega)]
 have hlt : a % b < 256 := Nat.lt_of_le_of_lt (Nat.mod_le _ _) ha
 generalize a % b = r at *
 go_simp
 omega
end
end Go.Proofs.YtcgbgmbnagmohaaDoor
namespace Go.Proofs.YtcgbgmbnagmohaaDoor
open Go.RowKit
set_option maxRecDepth 20000
attribute [local irreducible] wpList
end Go.Proofs.YtcgbgmbnagmohaaDoor
namespace Go.Proofs.YtcgbgmbnagmohaaDoor
open Go.RowKit
set_option maxRecDepth 20000
attribute [local irreducible] wpList
theorem pkC_row {p : MPk} : pkC p = pkR (.int .i64 p.id) (p.key.map b8) := by unfold pkC pkR; rfl
end Go.Proofs.YtcgbgmbnagmohaaDoor
namespace Go.Proofs.YtcgbgmbnagmohaaDoor
open Go.RowKit
set_option maxRecDepth 20000
attribute [local irreducible] wpList
theorem slR_own {α : Type} {z : Nat} {Rr : α → List Value → World → Prop} {B e n : Nat} {v : Value} {css : List (List Value)} {l : List α} {V : World} (h : V.ownsRow B e z v n css.flatten) (hn : n = l.length) (hc : css.length = l.length) (hz : ∀ x ∈ css, x.length = z) (hR : ∀ (i : Nat) (m : α) (cs : List Value), l[i]? = some m → css[i]? = some cs → Rr m cs V) : ∃ a c, v = .slice a l.length c ∧ SlR z Rr l a c V := by
 subst hn
 rcases h.2 with ⟨rfl, h2⟩ | ⟨g, cap, cur, rfl, h3, h4, h5, h6, h7, h8⟩
 ·refine ⟨none, 0, by rw [h2], ⟨by omega, css, hc, hz, hR, fun hne => absurd (List.length_eq_zero_iff.1 h2) hne⟩⟩
 ·refine ⟨some ⟨g, 0, none⟩, cap, rfl, ⟨h5, css, hc, hz, hR, fun _ => ⟨g, 0, rfl, (Array.getElem?_eq_some_iff.1 h4).1, fun j x hx => ?_⟩⟩⟩
  rw [Nat.zero_add]
  rw [← h8] at hx
  have hlt : j < l.length * z := by
   rcases Nat.lt_or_ge j (l.length * z) with h9 | h9
   ·exact h9
   ·rw [List.getElem?_eq_none (by rw [List.length_take]; omega)] at hx; cases hx
  rw [List.getElem?_take_of_lt hlt] at hx
  simp only [World.cell?, h4]
  simpa using hx
def pkAt (p : MPk) (cs : List Value) (_ : World) : Prop := cs = pkC p
theorem Gw.drop {w u : World} {p : Nat × List Value} {L : List (Nat × List Value)} {e : TypeId} {z n : Nat} {v : Value} {cs : List Value} {F H : World → Prop} (h : Gw w (p :: L) e z v n cs F H u) : Gw w L e z v n cs F H u := ⟨h.ev.drop, h.row, fun q hq => h.ap q (List.mem_cons_of_mem _ hq)⟩
theorem qc2 {p : MPk} (_h : p.key.length = 32) : One (pkC p) := by rw [pkC_row]; exact pkR_one rfl (One.b8 _)
end Go.Proofs.YtcgbgmbnagmohaaDoor
namespace Go.Proofs.YtcgbgmbnagmohaaDoor
open Go.RowKit
set_option maxRecDepth 20000
structure MEv where
 fr : Int
 dev : Int
 first : Bool
 eph : List (BitVec 8)
 signed : Int
 one : Int
 head : MHd
 body : List (BitVec 8)
structure MEv.Ok (e : MEv) : Prop where
 eph : e.eph.length = 32
 head : e.head.r.length = 32
 body : e.body.length ≤ 100000
def oneN (o : Int) : Int := if 0 ≤ o then min o 1099511627775 + 1 else 0
def evB (e : MEv) : List (BitVec 8) := viB e.fr ++ viB e.dev ++ trB e.first ++ e.eph ++ viB e.signed ++ viB (oneN e.one) ++ hdB e.head ++ (viB (e.body.length : Int) ++ e.body)
end Go.Proofs.YtcgbgmbnagmohaaDoor
namespace Go.Proofs.YtcgbgmbnagmohaaDoor
open Go.RowKit
set_option maxRecDepth 20000
attribute [local irreducible] wpList
theorem fro_sl {B : Nat} {v : Value} {l : List (BitVec 8)} {u : World} (h : u.ownsRow B 5 1 v l.length (l.map b8)) : Fro B (Sl v l) u := fun _ hV =>
 Sl.own (base := B) (qbs h fun k hk => hV.block k (qa4 h hk).1 (qa4 h hk).2 (by simp))
end Go.Proofs.YtcgbgmbnagmohaaDoor
namespace Go.Proofs.YtcgbgmbnagmohaaDoor
open Go.RowKit
set_option maxRecDepth 20000
attribute [local irreducible] wpList
theorem pkC_en {p : MPk} : pkC p = enR (.int .i64 p.id) (p.key.map b8) := by unfold pkC enR; rfl
structure MLs where
 acc : Int
 ver : Int
 ident : List (BitVec 8)
 devs : List MPk
 sig : List (BitVec 8)
structure MBu where
 acc : Int
 dev : Int
 ident : List (BitVec 8)
 key : List (BitVec 8)
 signed : MPk
 sig : List (BitVec 8)
 ones : List MPk
structure MSlot where
 dev : Int
 signed : MPk
 sig : List (BitVec 8)
 ones : List MPk
 last : Int
 mail : List MEv
def lsAt (m : MLs) (cs : List Value) (V : World) : Prop := ∃ a c, cs = lsR (.int .i64 m.acc) (.int .i64 m.ver) (m.ident.map b8) (.slice a m.devs.length c) (m.sig.map b8) ∧ SlR 33 pkAt m.devs a c V
def LR {α : Type} (At : α → List Value → World → Prop) (l : List α) (css : List (List Value)) (V : World) : Prop := css.length = l.length ∧ ∀ (i : Nat) (m : α) (cs : List Value), l[i]? = some m → css[i]? = some cs → At m cs V
theorem LR.nil {α : Type} {At : α → List Value → World → Prop} (V : World) : LR At ([] : List α) [] V := ⟨rfl, fun _ _ _ h => by simp at h⟩
theorem LR.snoc {α : Type} {At : α → List Value → World → Prop} {l : List α} {css : List (List Value)} {y : α} {X : List Value} {V : World} (h : LR At l css V) (hy : At y X V) : LR At (l ++ [y]) (css ++ [X]) V := by
 refine ⟨by rw [List.length_append, List.length_append, h.1]; rfl, fun i m cs h1 h2 => ?_⟩
 rcases Nat.lt_or_ge i l.length with hi | hi
 ·rw [List.getElem?_append_left hi] at h1
  rw [List.getElem?_append_left (by rw [h.1]; exact hi)] at h2
  exact h.2 i m cs h1 h2
 ·rw [List.getElem?_append_right hi] at h1
  rw [List.getElem?_append_right (by rw [h.1]; exact hi), h.1] at h2
  obtain ⟨h3, rfl⟩ : i - l.length = 0 ∧ m = y := by
   cases h4 : i - l.length with
   | zero => rw [h4] at h1; simpa using h1.symm
   | succ k => rw [h4] at h1; simp at h1
  rw [h3] at h2
  obtain rfl : cs = X := by simpa using h2.symm
  exact hy
end Go.Proofs.YtcgbgmbnagmohaaDoor
namespace Go.Proofs.YtcgbgmbnagmohaaDoor
open Go.RowKit
set_option maxRecDepth 20000
attribute [local irreducible] wpList
end Go.Proofs.YtcgbgmbnagmohaaDoor
namespace Go.Proofs.YtcgbgmbnagmohaaDoor
open Go.RowKit
set_option maxRecDepth 20000
attribute [local irreducible] wpList
end Go.Proofs.YtcgbgmbnagmohaaDoor
namespace Go.Proofs.YtcgbgmbnagmohaaDoor
open Go.RowKit
set_option maxRecDepth 20000
attribute [local irreducible] wpList
structure MRp where
 err : Int
 ls : MLs
 bu : MBu
 mail : List MEv
end Go.Proofs.YtcgbgmbnagmohaaDoor
namespace Go.Proofs.YtcgbgmbnagmohaaDoor
open Go.RowKit
set_option maxRecDepth 20000
attribute [local irreducible] wpList
structure MRq where
 kind : Int
 acc : Int
 dev : Int
 pin : List (BitVec 8)
 next : List (BitVec 8)
 name : List (BitVec 8)
 ls : MLs
 token : List (BitVec 8)
 signed : MPk
 sig : List (BitVec 8)
 ones : List MPk
 ver : Int
 items : List (Int × MEv)
structure MAc where
 id : Int
 pin : List (BitVec 8)
 wrong : Int
 till : Int
 ls : MLs
 slots : List MSlot
 tokens : List (List (BitVec 8))
end Go.Proofs.YtcgbgmbnagmohaaDoor
namespace Go.Proofs.YtcgbgmbnagmohaaDoor
open Go.RowKit
set_option maxRecDepth 20000
attribute [local irreducible] wpList
structure MBu.Ok (m : MBu) : Prop where
 ident : m.ident.length = 32
 key : m.key.length = 32
 signed : m.signed.key.length = 32
 sig : m.sig.length = 64
 ones : ∀ p ∈ m.ones, p.key.length = 32
 many : m.ones.length ≤ 60000
end Go.Proofs.YtcgbgmbnagmohaaDoor
namespace Go.Proofs.YtcgbgmbnagmohaaDoor
open Go.RowKit
set_option maxRecDepth 20000
attribute [local irreducible] wpList
theorem slR_get {α : Type} {z : Nat} {Rr : α → List Value → World → Prop} {l : List α} {a : Option Addr} {c : Nat} {w : World} (h : Fro 0 (SlR z Rr l a c) w) {i : Nat} (hi : i < l.length) : ∃ g f cs, a = some ⟨g, f, none⟩ ∧ g < w.heap.size ∧ cs.length = z ∧ w.rangeAt g (f + i * z) cs ∧ Fro 0 (Rr l[i] cs) w := by
 have one : ∀ V, SlR z Rr l a c V → ∃ g f cs, a = some ⟨g, f, none⟩ ∧ g < V.heap.size ∧ cs.length = z ∧ V.rangeAt g (f + i * z) cs ∧ Rr l[i] cs V := fun V hV => by
  obtain ⟨h1, css, h2, h3, h4, h5⟩ := hV
  obtain ⟨g, f, h6, h7, h8⟩ := h5 (fun hn => by rw [hn] at hi; cases hi)
  have hic : i < css.length := by rw [h2]; exact hi
  refine ⟨g, f, css[i], h6, h7, h3 _ (List.getElem_mem hic), ?_, h4 i _ _ (List.getElem?_eq_getElem hi) (List.getElem?_eq_getElem hic)⟩
  have e1 : css = css.take i ++ (css[i] :: css.drop (i + 1)) := by rw [← List.drop_eq_getElem_cons hic, List.take_append_drop]
  have hl : ((css.take i).flatten).length = i * z := by
   rw [flat_len (fun x hx => h3 x (List.mem_of_mem_take hx)), List.length_take, Nat.min_eq_left (by omega)]
  have e2 : css.flatten = (css.take i).flatten ++ (css[i] ++ (css.drop (i + 1)).flatten) := by
   conv => lhs; rw [e1]
   rw [List.flatten_append, List.flatten_cons]
  rw [e2] at h8
  have h9 := qcd (k := (css.take i).flatten.length) h8
  rw [List.drop_left' rfl, hl] at h9
  have h10 := qcc (k := css[i].length) h9
  rwa [List.take_left' rfl] at h10
 obtain ⟨g, f, cs, h1, h2, h3, h4, _⟩ := one w h.now
 refine ⟨g, f, cs, h1, h2, h3, h4, fun V hV => ?_⟩
 obtain ⟨g2, f2, cs2, k1, k2, k3, k4, k5⟩ := one V (h V hV)
 rw [h1] at k1
 simp only [Option.some.injEq, Addr.mk.injEq] at k1
 obtain ⟨rfl, rfl, _⟩ := k1
 have e : cs = cs2 := by
  apply List.ext_getElem?
  intro j
  rcases Nat.lt_or_ge j z with hj | hj
  ·have q1 := h4 j _ (List.getElem?_eq_getElem (by omega))
   have q2 := k4 j _ (List.getElem?_eq_getElem (by omega))
   rw [World.cell?_of_block (a := ⟨g, f + i * z + j, none⟩) (hV.block g (Nat.zero_le _) h2 (by simp)), q1] at q2
   rw [List.getElem?_eq_getElem (by omega), List.getElem?_eq_getElem (by omega)]
   exact q2
  ·rw [List.getElem?_eq_none (by omega), List.getElem?_eq_none (by omega)]
 rw [e]; exact k5
def evsB (ms : List MEv) (i : Nat) : List (BitVec 8) := viB (ms.length : Int) ++ (ms.take i).flatMap evB
end Go.Proofs.YtcgbgmbnagmohaaDoor
