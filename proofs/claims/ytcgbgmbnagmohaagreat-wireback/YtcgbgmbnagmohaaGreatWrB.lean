import Derived.Test.YtcgbgmbnagmohaaGreatGen
import Derived.Test.YtcgbgmbnagmohaaGreatS5
import Derived.Test.YtcgbgmbnagmohaaGreatGenA
import Derived.Test.YtcgbgmbnagmohaaGreatStr
import Derived.Laws.IdiomStrings
import Derived.Test.YtcgbgmbnagmohaaGreatLateG
import Derived.Test.YtcgbgmbnagmohaaGreatGw
import Derived.Test.YtcgbgmbnagmohaaGreatTy10
import Derived.Test.YtcgbgmbnagmohaaGreatCpy
namespace Go.Proofs.YtcgbgmbnagmohaaGreat
open Go.RowKit
set_option maxRecDepth 20000
end Go.Proofs.YtcgbgmbnagmohaaGreat
namespace Go.Proofs.YtcgbgmbnagmohaaGreat
open Go.RowKit
set_option maxRecDepth 20000
section
variable {w : World} {ρ : Operand → Value} {o : Oper} {x y : Operand} {t t' : TypeId}
end
end Go.Proofs.YtcgbgmbnagmohaaGreat
namespace Go.Proofs.YtcgbgmbnagmohaaGreat
open Go.RowKit
set_option maxRecDepth 20000
structure Cat (g : Nat) (vs : List Value) (ls : List (List (BitVec 8))) (u : World) : Prop where
  lt : g < u.heap.size
  R : u.rangeAt g 0 vs
  S : ∀ i, i < ls.length → ∃ v, vs[i]? = some v ∧ Sl v (ls.getD i []) u
theorem Cat.below {g : Nat} {vs : List Value} {ls : List (List (BitVec 8))} {u u' : World} (h : Cat g vs ls u) (hb : Below u.heap.size u u') : Cat g vs ls u' :=
  ⟨Nat.lt_of_lt_of_le h.lt hb.size, qbw h.R h.lt hb, fun i hi => by obtain ⟨v, h1, h2⟩ := h.S i hi; exact ⟨v, h1, h2.below hb⟩⟩
end Go.Proofs.YtcgbgmbnagmohaaGreat
namespace Go.Proofs.YtcgbgmbnagmohaaGreat
open Go.RowKit
set_option maxRecDepth 20000
section
variable {w : World} {ρ : Operand → Value} {o : Oper} {x y : Operand} {t t' : TypeId}
theorem run_minI {a b : Int} (ts : Array TypeId) (ho : o.op = .call { callee := .builtin .min, args := #[x, y], argTypes := ts }) (hx : ρ x = .int .i64 a) (hy : ρ y = .int .i64 b) : (execOp ρ o).run Tryz.prog w = .ok (.value (.int .i64 (min a b))) w := by
  unfold execOp
  have h := run_min_int2 (P := Tryz.prog) (w := w) ts o.type .i64 .i64 a b
  have e : (if b < a then b else a) = min a b := by split <;> omega
  rw [e] at h
  simp [ho, resolve, invoke, builtin, hx, hy, h, Result.andThen]
theorem run_maxI {a b : Int} (ts : Array TypeId) (ho : o.op = .call { callee := .builtin .max, args := #[x, y], argTypes := ts }) (hx : ρ x = .int .i64 a) (hy : ρ y = .int .i64 b) : (execOp ρ o).run Tryz.prog w = .ok (.value (.int .i64 (max a b))) w := by
  unfold execOp
  have h := run_max_int2 (P := Tryz.prog) (w := w) ts o.type .i64 .i64 a b
  have e : (if b > a then b else a) = max a b := by split <;> omega
  rw [e] at h
  simp [ho, resolve, invoke, builtin, hx, hy, h, Result.andThen]
end
def viF : Nat → Nat → List (BitVec 8)
  | 0, n => [BitVec.ofNat 8 n]
  | k + 1, n => if n ≤ 127 then [BitVec.ofNat 8 n] else BitVec.ofNat 8 (n % 128 + 128) :: viF k (n / 128)
def clN (n : Int) : Nat := (max 0 (min n 1099511627776)).toNat
def viB (n : Int) : List (BitVec 8) := viF 5 (clN n)
theorem viF_len : ∀ k n, (viF k n).length ≤ k + 1
  | 0, _ => by simp [viF]
  | k + 1, n => by
    rw [viF]; split
    · simp
    · have := viF_len k (n / 128); simp; omega
theorem qbv (n : Int) : (viB n).length ≤ 6 := viF_len 5 _
theorem viF_pos (k n : Nat) : 0 < (viF k n).length := by
  cases k with
  | zero => simp [viF]
  | succ k => rw [viF]; split <;> simp
theorem clN_le (n : Int) : clN n ≤ 1099511627776 := by unfold clN; omega
structure NuI (n : Nat) (pre : List (BitVec 8)) (m : Nat) : Prop where
  ex : ∃ k, viF 5 n = pre ++ viF k m ∧ m < 128 ^ (k + 1) ∧ pre.length + k ≤ 5
theorem NuI.start {n : Nat} (h : n ≤ 1099511627776) : NuI n [] n := ⟨5, rfl, by omega, by simp⟩
theorem NuI.step {n m : Nat} {pre : List (BitVec 8)} (h : NuI n pre m) (hm : 127 < m) : NuI n (pre ++ [BitVec.ofNat 8 (m % 128 + 128)]) (m / 128) := by
  obtain ⟨k, e, h1, h2⟩ := h.ex
  cases k with
  | zero => omega
  | succ k =>
    refine ⟨k, ?_, ?_, by rw [List.length_append]; simp; omega⟩
    · rw [e, viF, if_neg (by omega), List.append_assoc]; rfl
    · rw [Nat.pow_succ] at h1
      exact Nat.div_lt_of_lt_mul (by rwa [Nat.mul_comm] at h1)
theorem NuI.done {n m : Nat} {pre : List (BitVec 8)} (h : NuI n pre m) (hm : m ≤ 127) : viF 5 n = pre ++ [BitVec.ofNat 8 m] := by
  obtain ⟨k, e, _, _⟩ := h.ex
  cases k with
  | zero => exact e
  | succ k => rw [e, viF, if_pos hm]
theorem NuI.len {n m : Nat} {pre : List (BitVec 8)} (h : NuI n pre m) : pre.length ≤ 5 := by obtain ⟨k, _, _, h2⟩ := h.ex; omega
theorem NuI.le {n m : Nat} {pre : List (BitVec 8)} (h : NuI n pre m) : m < 4398046511104 := by
  obtain ⟨k, _, h1, h2⟩ := h.ex
  have : 128 ^ (k + 1) ≤ 128 ^ 6 := Nat.pow_le_pow_right (by omega) (by omega)
  omega
end Go.Proofs.YtcgbgmbnagmohaaGreat
namespace Go.Proofs.YtcgbgmbnagmohaaGreat
open Go.RowKit
set_option maxRecDepth 20000
end Go.Proofs.YtcgbgmbnagmohaaGreat
namespace Go.Proofs.YtcgbgmbnagmohaaGreat
open Go.RowKit
set_option maxRecDepth 20000
structure Tl (w : World) (v : Value) (l : List (BitVec 8)) (u : World) : Prop where
  bl : Below w.heap.size w u
  s : Sl v l u
theorem Tl.of {w u : World} {v : Value} {l : List (BitVec 8)} (h : S5 w v l u) : Tl w v l u := ⟨h.bl, h.sl⟩
def trB (b : Bool) : List (BitVec 8) := [if b then 1 else 0]
end Go.Proofs.YtcgbgmbnagmohaaGreat
namespace Go.Proofs.YtcgbgmbnagmohaaGreat
open Go.RowKit
set_option maxRecDepth 20000
def sbL (s : ByteArray) : List (BitVec 8) := s.data.toList.map fun b => b.toBitVec
theorem sbL_len (s : ByteArray) : (sbL s).length = s.size := by unfold sbL; rw [List.length_map]; rfl
theorem strOf_eq (l : List (BitVec 8)) : strOf l = ⟨(l.map UInt8.ofBitVec).toArray⟩ := by
  have h := foldl_push_byteCells (l.map UInt8.ofBitVec) ByteArray.empty
  have e : (l.map UInt8.ofBitVec).map (fun b => (b.toNat : Int)) = l.map fun x => (x.toNat : Int) := by rw [List.map_map]; rfl
  rw [e] at h
  unfold strOf
  rw [h, show ByteArray.empty.data = #[] from rfl, Array.empty_append]
theorem sbL_strOf (l : List (BitVec 8)) : sbL (strOf l) = l := by
  rw [strOf_eq]; unfold sbL
  simp only [List.map_map]
  conv => rhs; rw [← List.map_id l]
  exact List.map_congr_left fun x _ => rfl
section
variable {w : World} {ρ : Operand → Value} {o : Oper} {x y : Operand} {t t' : TypeId}
theorem run_lens {s : ByteArray} (ho : o.op = .call { callee := .builtin .len, args := #[x], argTypes := #[9] }) (hx : ρ x = .string s) : (execOp ρ o).run Tryz.prog w = .ok (.value (.int .i64 (s.size : Int))) w := by
  obtain ⟨dst, op, type, pos, after, guard⟩ := o
  subst ho
  have hu := Tryz.underlying9
  go_simp
end
end Go.Proofs.YtcgbgmbnagmohaaGreat
namespace Go.Proofs.YtcgbgmbnagmohaaGreat
open Go.RowKit
set_option maxRecDepth 20000
structure MPk where
  id : Int
  key : List (BitVec 8)
def pkC (p : MPk) : List Value := .int .i64 p.id :: p.key.map b8
def pkB (p : MPk) : List (BitVec 8) := viB p.id ++ p.key
theorem qbr {p : MPk} (h : p.key.length = 32) : (pkC p).length = 33 := by unfold pkC; rw [List.length_cons, List.length_map, h]
structure MHd where
  r : List (BitVec 8)
  prev : Int
  n : Int
def hdC (h : MHd) : List Value := h.r.map b8 ++ [.int .i64 h.prev, .int .i64 h.n]
def hdB (h : MHd) : List (BitVec 8) := h.r ++ viB h.prev ++ viB h.n
theorem qcu {h : MHd} (e : h.r.length = 32) : (hdC h).length = 34 := by unfold hdC; rw [List.length_append, List.length_map, e]; rfl
end Go.Proofs.YtcgbgmbnagmohaaGreat
namespace Go.Proofs.YtcgbgmbnagmohaaGreat
open Go.RowKit
set_option maxRecDepth 20000
section
variable {w : World} {ρ : Operand → Value} {o : Oper} {t t' e : TypeId} {x y : Operand}
theorem qca {z g i off n c : Nat} {k : IntKind} (ho : o.op = .indexAddr t x y) (ht : Tryz.prog.underlying t = some (.slice e)) (hs : (Tryz.prog.info? e).map (·.size) = some z) (hx : ρ x = .slice (some ⟨g, off, none⟩) n c) (hy : ρ y = .int k (i : Int)) (hi : i < n) : (execOp ρ o).run Tryz.prog w = .ok (.value (.pointer (some ⟨g, off + i * z, none⟩))) w := by
  have el : Tryz.prog.elem t = e := by unfold Program.elem; rw [ht]
  have h := run_indexAt_slice (P := Tryz.prog) (w := w) t ⟨g, off, none⟩ n c k (i : Int) (by rw [el]; exact ht)
  rw [el, if_pos ⟨by omega, by omega⟩] at h
  obtain ⟨inf, h1, h2⟩ := Option.map_eq_some_iff.1 hs
  have hz : (sizeOf e).run Tryz.prog w = .ok z w := by simp [sizeOf, typeInfo, go_sem, h1, h2]
  rw [hz] at h
  unfold execOp
  simp only [ho, hx, hy, Sem.run_bind, h]
  simp [go_sem, Addr.add_mid]
theorem run_geqI {k : IntKind} {a b : Int} {c : Bool} (ho : o.op = .binOp .geq t x y t') (hx : ρ x = .int k a) (hy : ρ y = .int k b) (h : decide (b ≤ a) = c) : (execOp ρ o).run Tryz.prog w = .ok (.value (.bool c)) w := by
  obtain ⟨dst, op, type, pos, after, guard⟩ := o
  subst ho
  subst h
  go_simp
end
structure Lz (z : Nat) (a : Option Addr) (cs : List (List Value)) (c : Nat) (u : World) : Prop where
  cap : cs.length ≤ c
  each : ∀ x ∈ cs, x.length = z
  at_ : cs ≠ [] → ∃ g f, a = some ⟨g, f, none⟩ ∧ g < u.heap.size ∧ u.rangeAt g f cs.flatten
theorem Lz.below {z : Nat} {a : Option Addr} {cs : List (List Value)} {c : Nat} {u u' : World} (h : Lz z a cs c u) (hb : Below u.heap.size u u') : Lz z a cs c u' :=
  ⟨h.cap, h.each, fun hn => by obtain ⟨g, f, h1, h2, h3⟩ := h.at_ hn; exact ⟨g, f, h1, Nat.lt_of_lt_of_le h2 hb.size, qbw h3 h2 hb⟩⟩
theorem flat_len {z : Nat} : ∀ {cs : List (List Value)}, (∀ x ∈ cs, x.length = z) → cs.flatten.length = cs.length * z
  | [], _ => by simp
  | x :: cs, h => by
    rw [List.flatten_cons, List.length_append, flat_len (fun y hy => h y (List.mem_cons_of_mem _ hy)), h x (List.mem_cons_self ..), List.length_cons, Nat.succ_mul, Nat.add_comm]
theorem Lz.get {z : Nat} {a : Option Addr} {cs : List (List Value)} {c : Nat} {u : World} (h : Lz z a cs c u) {i : Nat} (hi : i < cs.length) : ∃ g f, a = some ⟨g, f, none⟩ ∧ g < u.heap.size ∧ u.rangeAt g (f + i * z) (cs.getD i []) := by
  obtain ⟨g, f, h1, h2, h3⟩ := h.at_ (by intro e; rw [e] at hi; cases hi)
  refine ⟨g, f, h1, h2, ?_⟩
  have e1 : cs = cs.take i ++ (cs[i] :: cs.drop (i + 1)) := by rw [← List.drop_eq_getElem_cons hi, List.take_append_drop]
  have hl : ((cs.take i).flatten).length = i * z := by
    rw [flat_len (fun x hx => h.each x (List.mem_of_mem_take hx)), List.length_take, Nat.min_eq_left (by omega)]
  have e2 : cs.flatten = (cs.take i).flatten ++ (cs[i] ++ (cs.drop (i + 1)).flatten) := by
    conv => lhs; rw [e1]
    rw [List.flatten_append, List.flatten_cons]
  rw [e2] at h3
  have h4 := qcy (k := (cs.take i).flatten.length) h3
  rw [List.drop_left' rfl, hl] at h4
  have h5 := qck (k := cs[i].length) h4
  rw [List.take_left' rfl] at h5
  rw [show cs.getD i [] = cs[i] by simp [hi]]
  exact h5
def psB (ps : List MPk) (i : Nat) : List (BitVec 8) := viB (ps.length : Int) ++ (ps.take i).flatMap pkB
theorem pkB_len {p : MPk} (h : p.key.length = 32) : (pkB p).length ≤ 38 := by have := qbv p.id; unfold pkB; rw [List.length_append]; omega
end Go.Proofs.YtcgbgmbnagmohaaGreat
namespace Go.Proofs.YtcgbgmbnagmohaaGreat
open Go.RowKit
set_option maxRecDepth 20000
theorem results_rowT {fn : Func} {p q : Tmp} {t : TypeId} {d : TypeDesc} (h : fn.results = #[.cell p t, .tmp q]) {tmps : Array Value} {w : World} {g : Nat} {l : List Value} (ht : tmps.getD p undef = .pointer (some ⟨g, 0, none⟩)) (hu : Tryz.prog.underlying t = some d) (hd : d.isRow = true) (hl : (Tryz.prog.info? t).map (·.size) = some l.length) (hr : w.rangeAt g 0 l) :
    (results fn tmps).run Tryz.prog w = .ok (.tuple #[.agg l.toArray, tmps.getD q undef]) w := by
  have e := run_loadVar_mid (P := Tryz.prog) w g 0 t l d hr hu hd hl
  rw [Array.getD_eq_getD_getElem?] at ht
  simp only [results, h]
  simp [ht, asAddr, e, Result.andThen]
end Go.Proofs.YtcgbgmbnagmohaaGreat
namespace Go.Proofs.YtcgbgmbnagmohaaGreat
open Go.RowKit
set_option maxRecDepth 20000
attribute [local irreducible] wpList
theorem qac (n : Nat) : (z8 n).length = n := by unfold z8; rw [List.length_map, List.length_replicate]
section
variable {w : World} {ρ : Operand → Value} {o : Oper} {t t' : TypeId} {x y : Operand}
theorem qbt {vs : Array Value} {i : Nat} {v : Value} (ho : o.op = .extract x i) (hx : ρ x = .tuple vs) (hv : vs[i]? = some v) : (execOp ρ o).run Tryz.prog w = .ok (.value v) w := by
  obtain ⟨dst, op, type, pos, after, guard⟩ := o
  subst ho
  go_simp
end
def tkE (m i : Nat) (e : Int) (n : Nat) : Int := if e = 0 ∧ (m : Int) - (i : Int) < (n : Int) then 10 else e
def tkI (m i : Nat) (e : Int) (n : Nat) : Nat := if tkE m i e n = 0 then i + n else i
end Go.Proofs.YtcgbgmbnagmohaaGreat
namespace Go.Proofs.YtcgbgmbnagmohaaGreat
open Go.RowKit
set_option maxRecDepth 20000
attribute [local irreducible] wpList
theorem Sl.ext {v : Value} {l : List (BitVec 8)} {u V : World} (h : Sl v l u) (hV : Ext 0 [] u V) : Sl v l V := by
  obtain ⟨ao, c, h1, h2, h3⟩ := h
  refine ⟨ao, c, h1, h2, fun hn => ?_⟩
  obtain ⟨b, f, h4, h5, h6⟩ := h3 hn
  exact ⟨b, f, h4, Nat.lt_of_lt_of_le h5 hV.size, fun j x hx => (World.cell?_of_block (a := ⟨b, f + j, none⟩) (hV.block b (Nat.zero_le _) h5 (by simp))).trans (h6 j x hx)⟩
theorem Ev.drop {w u : World} {L : List (Nat × List Value)} {K : List Nat} {F H : World → Prop} {p : Nat × List Value} (h : Ev w (p :: L) K F H u) : Ev w L K F H u :=
  have hm : ∀ b ∈ K ++ L.map (·.1), b ∈ K ++ (p :: L).map (·.1) := fun b hb => by
    rcases List.mem_append.1 hb with hb | hb
    · exact List.mem_append.2 (.inl hb)
    · exact List.mem_append.2 (.inr (List.mem_cons_of_mem _ hb))
  ⟨h.mv.drop, h.kb, fun V hV => h.fs V (hV.mono (Nat.le_refl _) hm), fun V hV => h.hs V (hV.mono (Nat.le_refl _) hm)⟩
section
variable {w : World} {ρ : Operand → Value} {o : Oper} {t t' : TypeId} {x y : Operand} {a b : Nat}
theorem run_cvu8N (ho : o.op = .convert 5 3 x) (hx : ρ x = .int .u8 (a : Int)) (ha : a < 256) : (execOp ρ o).run Tryz.prog w = .ok (.value (.int .i64 (a : Int))) w := by
  rw [run_cv ho Tryz.underlying5 Tryz.underlying3 hx, i64_fit (by omega) (by omega)]
end
def gnL (b : List (BitVec 8)) (most : Int) : Nat → Nat → Nat → Nat → Nat × Int × Int
  | 0, i, _, _ => (i, 11, 0)
  | k + 1, i, n, t => if b.length ≤ i then (i, 10, 0) else
    if (b.getD i 0).toNat < 128 then
      (if ((b.getD i 0).toNat = 0 ∧ k < 5) ∨ most < ((n + (b.getD i 0).toNat % 128 * t : Nat) : Int) then (i + 1, 11, 0) else (i + 1, 0, ((n + (b.getD i 0).toNat % 128 * t : Nat) : Int)))
    else gnL b most k (i + 1) (n + (b.getD i 0).toNat % 128 * t) (t * 128)
def gn (b : List (BitVec 8)) (most : Int) (i : Nat) (e : Int) : Nat × Int × Int := if e = 0 then gnL b most 6 i 0 1 else (i, e, 0)
end Go.Proofs.YtcgbgmbnagmohaaGreat
namespace Go.Proofs.YtcgbgmbnagmohaaGreat
open Go.RowKit
set_option maxRecDepth 20000
attribute [local irreducible] wpList
def gkX (n : Nat) (b : List (BitVec 8)) (i : Nat) (e : Int) : List (BitVec 8) := if tkE b.length i e n = 0 then (b.drop i).take n else List.replicate n 0
theorem tk_room {m i n : Nat} {e : Int} (_hi : i ≤ m) (h : tkE m i e n = 0) : i + n ≤ m := by
  unfold tkE at h
  by_cases h1 : e = 0 ∧ (m : Int) - (i : Int) < (n : Int)
  · rw [if_pos h1] at h; omega
  · rw [if_neg h1] at h; subst h
    have : ¬ ((m : Int) - (i : Int) < (n : Int)) := fun h2 => h1 ⟨rfl, h2⟩
    omega
theorem gkX_len {n : Nat} {b : List (BitVec 8)} {i : Nat} {e : Int} (hi : i ≤ b.length) : (gkX n b i e).length = n := by
  unfold gkX
  split
  · rename_i h
    have := tk_room hi h
    rw [List.length_take, List.length_drop]; omega
  · exact List.length_replicate
end Go.Proofs.YtcgbgmbnagmohaaGreat
namespace Go.Proofs.YtcgbgmbnagmohaaGreat
open Go.RowKit
set_option maxRecDepth 20000
attribute [local irreducible] wpList
def nM (b : List (BitVec 8)) (most : Int) (s : Nat × Int) : (Nat × Int) × Int := (((gn b most s.1 s.2).1, (gn b most s.1 s.2).2.1), (gn b most s.1 s.2).2.2)
def kM (n : Nat) (b : List (BitVec 8)) (s : Nat × Int) : (Nat × Int) × List (BitVec 8) := ((tkI b.length s.1 s.2 n, tkE b.length s.1 s.2 n), gkX n b s.1 s.2)
theorem kM_len {n : Nat} {b : List (BitVec 8)} {s : Nat × Int} (h : s.1 ≤ b.length) : (kM n b s).2.length = n := gkX_len h
theorem pkC_row {p : MPk} : pkC p = pkR (.int .i64 p.id) (p.key.map b8) := by unfold pkC pkR; rfl
theorem hdC_row {h : MHd} : hdC h = hdR (h.r.map b8) (.int .i64 h.prev) (.int .i64 h.n) := by unfold hdC hdR; rfl
def pkM (b : List (BitVec 8)) (s : Nat × Int) : (Nat × Int) × MPk :=
  let r1 := nM b 1099511627776 s
  let r2 := kM 32 b r1.1
  (r2.1, ⟨r1.2, r2.2⟩)
def hdM (b : List (BitVec 8)) (s : Nat × Int) : (Nat × Int) × MHd :=
  let r1 := kM 32 b s
  let r2 := nM b 1099511627776 r1.1
  let r3 := nM b 1099511627776 r2.1
  (r3.1, ⟨r1.2, r2.2, r3.2⟩)
end Go.Proofs.YtcgbgmbnagmohaaGreat
namespace Go.Proofs.YtcgbgmbnagmohaaGreat
open Go.RowKit
set_option maxRecDepth 20000
attribute [local irreducible] wpList
theorem gnL_num {b : List (BitVec 8)} {most : Int} (h0 : 0 ≤ most) : ∀ {k i n t : Nat}, 0 ≤ (gnL b most k i n t).2.2 ∧ (gnL b most k i n t).2.2 ≤ most
  | 0, _, _, _ => ⟨Int.le_refl _, h0⟩
  | k + 1, i, n, t => by
    unfold gnL
    split
    · exact ⟨Int.le_refl _, h0⟩
    · split
      · split
        · exact ⟨Int.le_refl _, h0⟩
        · rename_i h
          have : ¬ most < ((n + (b.getD i 0).toNat % 128 * t : Nat) : Int) := fun h2 => h (.inr h2)
          show 0 ≤ ((n + (b.getD i 0).toNat % 128 * t : Nat) : Int) ∧ ((n + (b.getD i 0).toNat % 128 * t : Nat) : Int) ≤ most
          omega
      · exact gnL_num h0
theorem nM_num {b : List (BitVec 8)} {most : Int} {s : Nat × Int} (h0 : 0 ≤ most) : 0 ≤ (nM b most s).2 ∧ (nM b most s).2 ≤ most := by
  unfold nM gn
  by_cases he : s.2 = 0
  · rw [if_pos he]; exact gnL_num h0
  · rw [if_neg he]; exact ⟨Int.le_refl _, h0⟩
def rowsM {α : Type} (g : Nat × Int → (Nat × Int) × α) : Nat → Nat × Int → (Nat × Int) × List α
  | 0, s => (s, [])
  | k + 1, s => if s.2 = 0 then ((rowsM g k (g s).1).1, (g s).2 :: (rowsM g k (g s).1).2) else (s, [])
theorem qdb {α : Type} (g : Nat × Int → (Nat × Int) × α) (s : Nat × Int) : rowsM g 0 s = (s, []) := rfl
theorem qcd {α : Type} (g : Nat × Int → (Nat × Int) × α) (k : Nat) {s : Nat × Int} (h : s.2 ≠ 0) : rowsM g k s = (s, []) := by
  cases k with
  | zero => rfl
  | succ k => unfold rowsM; rw [if_neg h]
theorem qdc {α : Type} (g : Nat × Int → (Nat × Int) × α) (k : Nat) {s : Nat × Int} (h : s.2 = 0) : rowsM g (k + 1) s = ((rowsM g k (g s).1).1, (g s).2 :: (rowsM g k (g s).1).2) := by
  conv => lhs; unfold rowsM
  rw [if_pos h]
theorem qc5 {α : Type} {z : Nat} {Rr : α → List Value → World → Prop} {B e n : Nat} {v : Value} {css : List (List Value)} {l : List α} {V : World} (h : V.ownsRow B e z v n css.flatten) (hn : n = l.length) (hc : css.length = l.length) (hz : ∀ x ∈ css, x.length = z) (hR : ∀ (i : Nat) (m : α) (cs : List Value), l[i]? = some m → css[i]? = some cs → Rr m cs V) : ∃ a c, v = .slice a l.length c ∧ SlR z Rr l a c V := by
  subst hn
  rcases h.2 with ⟨rfl, h2⟩ | ⟨g, cap, cur, rfl, h3, h4, h5, h6, h7, h8⟩
  · refine ⟨none, 0, by rw [h2], ⟨by omega, css, hc, hz, hR, fun hne => absurd (List.length_eq_zero_iff.1 h2) hne⟩⟩
  · refine ⟨some ⟨g, 0, none⟩, cap, rfl, ⟨h5, css, hc, hz, hR, fun _ => ⟨g, 0, rfl, (Array.getElem?_eq_some_iff.1 h4).1, fun j x hx => ?_⟩⟩⟩
    rw [Nat.zero_add]
    rw [← h8] at hx
    have hlt : j < l.length * z := by
      rcases Nat.lt_or_ge j (l.length * z) with h9 | h9
      · exact h9
      · rw [List.getElem?_eq_none (by rw [List.length_take]; omega)] at hx; cases hx
    rw [List.getElem?_take_of_lt hlt] at hx
    simp only [World.cell?, h4]
    simpa using hx
def pkAt (p : MPk) (cs : List Value) (_ : World) : Prop := cs = pkC p
theorem Gw.drop {w u : World} {p : Nat × List Value} {L : List (Nat × List Value)} {e : TypeId} {z n : Nat} {v : Value} {cs : List Value} {F H : World → Prop} (h : Gw w (p :: L) e z v n cs F H u) : Gw w L e z v n cs F H u := ⟨h.ev.drop, h.row, fun q hq => h.ap q (List.mem_cons_of_mem _ hq)⟩
theorem pkC_len' {p : MPk} (h : p.key.length = 32) : (pkC p).length = 33 := qbr h
theorem pkC_one {p : MPk} (_h : p.key.length = 32) : One (pkC p) := by rw [pkC_row]; exact qb8 rfl (One.b8 _)
def psM (b : List (BitVec 8)) (s : Nat × Int) : (Nat × Int) × List MPk := rowsM (pkM b) (nM b 60000 s).2.toNat (nM b 60000 s).1
end Go.Proofs.YtcgbgmbnagmohaaGreat
namespace Go.Proofs.YtcgbgmbnagmohaaGreat
open Go.RowKit
set_option maxRecDepth 20000
structure MEv where
  fr : Int
  dev : Int
  first : Bool
  eph : List (BitVec 8)
  signed : Int
  one : Int
  head : MHd
  body : List (BitVec 8)
structure MEv.Ok (e : MEv) : Prop where
  eph : e.eph.length = 32
  head : e.head.r.length = 32
  body : e.body.length ≤ 100000
def evC (e : MEv) (v : Value) : List Value := .int .i64 e.fr :: .int .i64 e.dev :: .bool e.first :: (e.eph.map b8 ++ (.int .i64 e.signed :: .int .i64 e.one :: (hdC e.head ++ [v])))
def oneN (o : Int) : Int := if 0 ≤ o then min o 1099511627775 + 1 else 0
def evB (e : MEv) : List (BitVec 8) := viB e.fr ++ viB e.dev ++ trB e.first ++ e.eph ++ viB e.signed ++ viB (oneN e.one) ++ hdB e.head ++ (viB (e.body.length : Int) ++ e.body)
theorem evC_len {e : MEv} (h : e.Ok) (v : Value) : (evC e v).length = 72 := by
  unfold evC
  simp only [List.length_cons, List.length_append, List.length_map, h.eph, qcu h.head, List.length_nil]
theorem hdB_len {h : MHd} (e : h.r.length = 32) : (hdB h).length ≤ 44 := by
  have h1 := qbv h.prev
  have h2 := qbv h.n
  unfold hdB; rw [List.length_append, List.length_append]; omega
theorem trB_len (b : Bool) : (trB b).length = 1 := rfl
theorem evB_len {e : MEv} (h : e.Ok) : (evB e).length ≤ 200 + e.body.length := by
  have h1 := qbv e.fr
  have h2 := qbv e.dev
  have h3 := qbv e.signed
  have h4 := qbv (oneN e.one)
  have h5 := qbv (e.body.length : Int)
  have h6 := hdB_len h.head
  have h7 := h.eph
  unfold evB
  simp only [List.length_append, trB_len]
  omega
end Go.Proofs.YtcgbgmbnagmohaaGreat
namespace Go.Proofs.YtcgbgmbnagmohaaGreat
open Go.RowKit
set_option maxRecDepth 20000
attribute [local irreducible] wpList
def trM (b : List (BitVec 8)) (s : Nat × Int) : (Nat × Int) × Bool :=
  if tkE b.length s.1 s.2 1 = 0 then (if 1 < (b.getD s.1 0).toNat then ((s.1 + 1, 11), false) else ((s.1 + 1, 0), decide ((b.getD s.1 0).toNat = 1)))
  else ((tkI b.length s.1 s.2 1, tkE b.length s.1 s.2 1), false)
def byM (b : List (BitVec 8)) (s : Nat × Int) : (Nat × Int) × List (BitVec 8) :=
  let r := nM b 60000 s
  ((tkI b.length r.1.1 r.1.2 r.2.toNat, tkE b.length r.1.1 r.1.2 r.2.toNat), if tkE b.length r.1.1 r.1.2 r.2.toNat = 0 then (b.drop r.1.1).take r.2.toNat else [])
theorem fro_sl {B : Nat} {v : Value} {l : List (BitVec 8)} {u : World} (h : u.ownsRow B 5 1 v l.length (l.map b8)) : Fro B (Sl v l) u := fun _ hV =>
  Sl.own (base := B) (qbs h fun k hk => hV.block k (qax h hk).1 (qax h hk).2 (by simp))
end Go.Proofs.YtcgbgmbnagmohaaGreat
namespace Go.Proofs.YtcgbgmbnagmohaaGreat
open Go.RowKit
set_option maxRecDepth 20000
attribute [local irreducible] wpList
theorem pkC_en {p : MPk} : pkC p = enR (.int .i64 p.id) (p.key.map b8) := by unfold pkC enR; rfl
theorem evC_row {e : MEv} {v : Value} : evC e v = evR (.int .i64 e.fr) (.int .i64 e.dev) (.bool e.first) (e.eph.map b8) (.int .i64 e.signed) (.int .i64 e.one) (hdC e.head) v := by unfold evC evR; rfl
theorem hdC_one {h : MHd} : One (hdC h) := by rw [hdC_row]; exact hdR_one (One.b8 _) rfl rfl
structure MLs where
  acc : Int
  ver : Int
  ident : List (BitVec 8)
  devs : List MPk
  sig : List (BitVec 8)
structure MBu where
  acc : Int
  dev : Int
  ident : List (BitVec 8)
  key : List (BitVec 8)
  signed : MPk
  sig : List (BitVec 8)
  ones : List MPk
structure MSlot where
  dev : Int
  signed : MPk
  sig : List (BitVec 8)
  ones : List MPk
  last : Int
  mail : List MEv
def tkAt (k : List (BitVec 8)) (cs : List Value) (_ : World) : Prop := cs = k.map b8
def evAt (m : MEv) (cs : List Value) (V : World) : Prop := ∃ a c, cs = evC m (.slice a m.body.length c) ∧ Sl (.slice a m.body.length c) m.body V
def itAt (m : Int × MEv) (cs : List Value) (V : World) : Prop := ∃ cs', cs = itR (.int .i64 m.1) cs' ∧ evAt m.2 cs' V
def lsAt (m : MLs) (cs : List Value) (V : World) : Prop := ∃ a c, cs = lsR (.int .i64 m.acc) (.int .i64 m.ver) (m.ident.map b8) (.slice a m.devs.length c) (m.sig.map b8) ∧ SlR 33 pkAt m.devs a c V
def buAt (m : MBu) (cs : List Value) (V : World) : Prop := ∃ a c, cs = buR (.int .i64 m.acc) (.int .i64 m.dev) (m.ident.map b8) (m.key.map b8) (pkC m.signed) (m.sig.map b8) (.slice a m.ones.length c) ∧ SlR 33 pkAt m.ones a c V
def slAt (m : MSlot) (cs : List Value) (V : World) : Prop := ∃ a c a2 c2, cs = slR (.int .i64 m.dev) (pkC m.signed) (m.sig.map b8) (.slice a m.ones.length c) (.int .i64 m.last) (.slice a2 m.mail.length c2) ∧ SlR 33 pkAt m.ones a c V ∧ SlR 72 evAt m.mail a2 c2 V
def LR {α : Type} (At : α → List Value → World → Prop) (l : List α) (css : List (List Value)) (V : World) : Prop := css.length = l.length ∧ ∀ (i : Nat) (m : α) (cs : List Value), l[i]? = some m → css[i]? = some cs → At m cs V
theorem LR.nil {α : Type} {At : α → List Value → World → Prop} (V : World) : LR At ([] : List α) [] V := ⟨rfl, fun _ _ _ h => by simp at h⟩
theorem LR.snoc {α : Type} {At : α → List Value → World → Prop} {l : List α} {css : List (List Value)} {y : α} {X : List Value} {V : World} (h : LR At l css V) (hy : At y X V) : LR At (l ++ [y]) (css ++ [X]) V := by
  refine ⟨by rw [List.length_append, List.length_append, h.1]; rfl, fun i m cs h1 h2 => ?_⟩
  rcases Nat.lt_or_ge i l.length with hi | hi
  · rw [List.getElem?_append_left hi] at h1
    rw [List.getElem?_append_left (by rw [h.1]; exact hi)] at h2
    exact h.2 i m cs h1 h2
  · rw [List.getElem?_append_right hi] at h1
    rw [List.getElem?_append_right (by rw [h.1]; exact hi), h.1] at h2
    obtain ⟨h3, rfl⟩ : i - l.length = 0 ∧ m = y := by
      cases h4 : i - l.length with
      | zero => rw [h4] at h1; simpa using h1.symm
      | succ k => rw [h4] at h1; simp at h1
    rw [h3] at h2
    obtain rfl : cs = X := by simpa using h2.symm
    exact hy
def enM (b : List (BitVec 8)) (s : Nat × Int) : (Nat × Int) × List (MPk) := rowsM (pkM b) (nM b 60000 s).2.toNat (nM b 60000 s).1
def tkM (b : List (BitVec 8)) (s : Nat × Int) : (Nat × Int) × List (List (BitVec 8)) := rowsM (kM 32 b) (nM b 60000 s).2.toNat (nM b 60000 s).1
end Go.Proofs.YtcgbgmbnagmohaaGreat
namespace Go.Proofs.YtcgbgmbnagmohaaGreat
open Go.RowKit
set_option maxRecDepth 20000
attribute [local irreducible] wpList
def lsM (b : List (BitVec 8)) (s : Nat × Int) : (Nat × Int) × MLs :=
  let r1 := nM b 1099511627776 s
  let r2 := nM b 1099511627776 r1.1
  let r3 := kM 32 b r2.1
  let r4 := enM b r3.1
  let r5 := kM 64 b r4.1
  (r5.1, (⟨r1.2, r2.2, r3.2, r4.2, r5.2⟩ : MLs))
def buM (b : List (BitVec 8)) (s : Nat × Int) : (Nat × Int) × MBu :=
  let r1 := nM b 1099511627776 s
  let r2 := nM b 1099511627776 r1.1
  let r3 := kM 32 b r2.1
  let r4 := kM 32 b r3.1
  let r5 := pkM b r4.1
  let r6 := kM 64 b r5.1
  let r7 := psM b r6.1
  (r7.1, (⟨r1.2, r2.2, r3.2, r4.2, r5.2, r6.2, r7.2⟩ : MBu))
def evM (b : List (BitVec 8)) (s : Nat × Int) : (Nat × Int) × MEv :=
  let r1 := nM b 1099511627776 s
  let r2 := nM b 1099511627776 r1.1
  let r3 := trM b r2.1
  let r4 := kM 32 b r3.1
  let r5 := nM b 1099511627776 r4.1
  let r6 := nM b 1099511627776 r5.1
  let r7 := hdM b r6.1
  let r8 := byM b r7.1
  (r8.1, (⟨r1.2, r2.2, r3.2, r4.2, r5.2, r6.2 - 1, r7.2, r8.2⟩ : MEv))
end Go.Proofs.YtcgbgmbnagmohaaGreat
namespace Go.Proofs.YtcgbgmbnagmohaaGreat
open Go.RowKit
set_option maxRecDepth 20000
attribute [local irreducible] wpList
def evsM (b : List (BitVec 8)) (s : Nat × Int) : (Nat × Int) × List (MEv) := rowsM (evM b) (nM b 60000 s).2.toNat (nM b 60000 s).1
def itM (b : List (BitVec 8)) (s : Nat × Int) : (Nat × Int) × (Int × MEv) :=
  let r1 := nM b 1099511627776 s
  let r2 := evM b r1.1
  (r2.1, (r1.2, r2.2))
def itsM (b : List (BitVec 8)) (s : Nat × Int) : (Nat × Int) × List (Int × MEv) := rowsM (itM b) (nM b 60000 s).2.toNat (nM b 60000 s).1
def slM (b : List (BitVec 8)) (s : Nat × Int) : (Nat × Int) × (MSlot) :=
  let r1 := nM b 1099511627776 s
  let r2 := pkM b r1.1
  let r3 := kM 64 b r2.1
  let r4 := psM b r3.1
  let r5 := nM b 1099511627776 r4.1
  let r6 := evsM b r5.1
  (r6.1, (⟨r1.2, r2.2, r3.2, r4.2, r5.2, r6.2⟩ : MSlot))
def slsM (b : List (BitVec 8)) (s : Nat × Int) : (Nat × Int) × List (MSlot) := rowsM (slM b) (nM b 60000 s).2.toNat (nM b 60000 s).1
end Go.Proofs.YtcgbgmbnagmohaaGreat
namespace Go.Proofs.YtcgbgmbnagmohaaGreat
open Go.RowKit
set_option maxRecDepth 20000
attribute [local irreducible] wpList
def qb0 (b : List (BitVec 8)) : List (BitVec 8) × Int := if 60000 < b.length then ([], 3) else (b, 0)
def endM (m i : Nat) (e : Int) : Int := if e = 0 ∧ i < m then 11 else e
theorem sl_nilR (w : World) : Sl (.slice none 0 0) [] w := ⟨none, 0, rfl, Nat.le_refl _, fun h => absurd rfl h⟩
theorem slR_nil {α : Type} (z : Nat) (At : α → List Value → World → Prop) (V : World) : SlR z At ([] : List α) none 0 V := ⟨Nat.le_refl _, [], rfl, (fun _ h => by cases h), (fun _ _ _ h => by simp at h), fun h => absurd rfl h⟩
def zLs : MLs := ⟨0, 0, List.replicate 32 0, [], List.replicate 64 0⟩
def zHd : MHd := ⟨List.replicate 32 0, 0, 0⟩
def zPk : MPk := ⟨0, List.replicate 32 0⟩
def zEv : MEv := ⟨0, 0, false, List.replicate 32 0, 0, 0, zHd, []⟩
def zBu : MBu := ⟨0, 0, List.replicate 32 0, List.replicate 32 0, zPk, List.replicate 64 0, []⟩
structure MRp where
  err : Int
  ls : MLs
  bu : MBu
  mail : List MEv
def rpAt (m : MRp) (cs : List Value) (V : World) : Prop := ∃ c1 c2 a c, cs = rpR (.int .u16 m.err) c1 c2 (.slice a m.mail.length c) ∧ lsAt m.ls c1 V ∧ buAt m.bu c2 V ∧ SlR 72 evAt m.mail a c V
theorem lsAt_zero (V : World) : lsAt zLs (lsR (.int .i64 0) (.int .i64 0) (z8 32) (.slice none 0 0) (z8 64)) V := ⟨none, 0, rfl, slR_nil _ _ _⟩
theorem buAt_zero (V : World) : buAt zBu (buR (.int .i64 0) (.int .i64 0) (z8 32) (z8 32) (pkR (.int .i64 0) (z8 32)) (z8 64) (.slice none 0 0)) V := ⟨none, 0, by rw [pkC_row]; rfl, slR_nil _ _ _⟩
theorem evAt_zero (V : World) : evAt zEv (evR (.int .i64 0) (.int .i64 0) (.bool false) (z8 32) (.int .i64 0) (.int .i64 0) (hdR (z8 32) (.int .i64 0) (.int .i64 0)) (.slice none 0 0)) V := ⟨none, 0, by rw [evC_row, hdC_row]; rfl, none, 0, rfl, Nat.le_refl _, fun h => absurd rfl h⟩
theorem run_cvu16 {w : World} {ρ : Operand → Value} {o : Oper} {x : Operand} {n : Int} (ho : o.op = .convert 3 49 x) (hx : ρ x = .int .i64 n) (h0 : 0 ≤ n) (h1 : n ≤ 255) : (execOp ρ o).run Tryz.prog w = .ok (.value (.int .u16 n)) w := by
  rw [run_cv ho Tryz.underlying3 Tryz.underlying49 hx]
  have e : IntKind.u16.wrap n = n := by simp only [IntKind.wrap, IntKind.bits, IntKind.signed]; simp; omega
  rw [e]
def rdLsA (b : List (BitVec 8)) (s : Nat × Int) : (Nat × Int) × MLs :=
  let r1 := lsM b s
  (r1.1, r1.2)
def rdLs (b : List (BitVec 8)) : MLs × Int :=
  let r := rdLsA (qb0 b).1 (0, (qb0 b).2)
  if endM (qb0 b).1.length r.1.1 r.1.2 = 0 then (r.2, 0) else (zLs, endM (qb0 b).1.length r.1.1 r.1.2)
def rdEvA (b : List (BitVec 8)) (s : Nat × Int) : (Nat × Int) × MEv :=
  let r1 := evM b s
  (r1.1, r1.2)
def rdEv (b : List (BitVec 8)) : MEv × Int :=
  let r := rdEvA (qb0 b).1 (0, (qb0 b).2)
  if endM (qb0 b).1.length r.1.1 r.1.2 = 0 then (r.2, 0) else (zEv, endM (qb0 b).1.length r.1.1 r.1.2)
def rdRpA (b : List (BitVec 8)) (s : Nat × Int) : (Nat × Int) × MRp :=
  let r1 := nM b 255 s
  let r2 := lsM b r1.1
  let r3 := buM b r2.1
  let r4 := evsM b r3.1
  (r4.1, (⟨r1.2, r2.2, r3.2, r4.2⟩ : MRp))
def rdRp (b : List (BitVec 8)) : MRp × Int :=
  let r := rdRpA (qb0 b).1 (0, (qb0 b).2)
  if endM (qb0 b).1.length r.1.1 r.1.2 = 0 then (r.2, 0) else (⟨0, zLs, zBu, []⟩, endM (qb0 b).1.length r.1.1 r.1.2)
end Go.Proofs.YtcgbgmbnagmohaaGreat
namespace Go.Proofs.YtcgbgmbnagmohaaGreat
open Go.RowKit
set_option maxRecDepth 20000
attribute [local irreducible] wpList
structure MRq where
  kind : Int
  acc : Int
  dev : Int
  pin : List (BitVec 8)
  next : List (BitVec 8)
  name : List (BitVec 8)
  ls : MLs
  token : List (BitVec 8)
  signed : MPk
  sig : List (BitVec 8)
  ones : List MPk
  ver : Int
  items : List (Int × MEv)
structure MAc where
  id : Int
  pin : List (BitVec 8)
  wrong : Int
  till : Int
  ls : MLs
  slots : List MSlot
  tokens : List (List (BitVec 8))
def rqAt (m : MRq) (cs : List Value) (V : World) : Prop := ∃ c1 a c a2 c2, cs = rqR (.int .u8 m.kind) (.int .i64 m.acc) (.int .i64 m.dev) (.string (strOf m.pin)) (.string (strOf m.next)) (.string (strOf m.name)) c1 (m.token.map b8) (pkC m.signed) (m.sig.map b8) (.slice a m.ones.length c) (.int .i64 m.ver) (.slice a2 m.items.length c2) ∧ lsAt m.ls c1 V ∧ SlR 33 pkAt m.ones a c V ∧ SlR 73 itAt m.items a2 c2 V
def acAt (m : MAc) (cs : List Value) (V : World) : Prop := ∃ c1 a c a2 c2, cs = acR (.int .i64 m.id) (.string (strOf m.pin)) (.int .i64 m.wrong) (.int .i64 m.till) c1 (.slice a m.slots.length c) (.slice a2 m.tokens.length c2) ∧ lsAt m.ls c1 V ∧ SlR 101 slAt m.slots a c V ∧ SlR 32 tkAt m.tokens a2 c2 V
def zRq : MRq := ⟨0, 0, 0, [], [], [], zLs, List.replicate 32 0, zPk, List.replicate 64 0, [], 0, []⟩
def zAc : MAc := ⟨0, [], 0, 0, zLs, [], []⟩
theorem run_cvu8R {w : World} {ρ : Operand → Value} {o : Oper} {x : Operand} {n : Int} (ho : o.op = .convert 3 5 x) (hx : ρ x = .int .i64 n) (h0 : 0 ≤ n) (h1 : n ≤ 255) : (execOp ρ o).run Tryz.prog w = .ok (.value (.int .u8 n)) w := by
  rw [run_cv ho Tryz.underlying3 Tryz.underlying5 hx]
  have e : IntKind.u8.wrap n = n := by simp only [IntKind.wrap, IntKind.bits, IntKind.signed]; simp; omega
  rw [e]
def rdRqA (b : List (BitVec 8)) (s : Nat × Int) : (Nat × Int) × MRq :=
  let r1 := nM b 255 s
  let r2 := nM b 1099511627776 r1.1
  let r3 := nM b 1099511627776 r2.1
  let r4 := byM b r3.1
  let r5 := byM b r4.1
  let r6 := byM b r5.1
  let r7 := lsM b r6.1
  let r8 := kM 32 b r7.1
  let r9 := pkM b r8.1
  let r10 := kM 64 b r9.1
  let r11 := psM b r10.1
  let r12 := nM b 1099511627776 r11.1
  let r13 := itsM b r12.1
  (r13.1, (⟨r1.2, r2.2, r3.2, r4.2, r5.2, r6.2, r7.2, r8.2, r9.2, r10.2, r11.2, r12.2, r13.2⟩ : MRq))
def rdRq (b : List (BitVec 8)) : MRq × Int :=
  let r := rdRqA (qb0 b).1 (0, (qb0 b).2)
  if endM (qb0 b).1.length r.1.1 r.1.2 = 0 then (r.2, 0) else (zRq, endM (qb0 b).1.length r.1.1 r.1.2)
def rdAcA (b : List (BitVec 8)) (s : Nat × Int) : (Nat × Int) × MAc :=
  let r1 := nM b 1099511627776 s
  let r2 := byM b r1.1
  let r3 := nM b 1099511627776 r2.1
  let r4 := nM b 1099511627776 r3.1
  let r5 := lsM b r4.1
  let r6 := slsM b r5.1
  let r7 := tkM b r6.1
  (r7.1, (⟨r1.2, r2.2, r3.2, r4.2, r5.2, r6.2, r7.2⟩ : MAc))
def rdAc (b : List (BitVec 8)) : MAc × Int :=
  let r := rdAcA (qb0 b).1 (0, (qb0 b).2)
  if endM (qb0 b).1.length r.1.1 r.1.2 = 0 then (r.2, 0) else (zAc, endM (qb0 b).1.length r.1.1 r.1.2)
end Go.Proofs.YtcgbgmbnagmohaaGreat
namespace Go.Proofs.YtcgbgmbnagmohaaGreat
open Go.RowKit
set_option maxRecDepth 20000
attribute [local irreducible] wpList
def buB (m : MBu) : List (BitVec 8) := viB m.acc ++ viB m.dev ++ m.ident ++ m.key ++ pkB m.signed ++ m.sig ++ psB m.ones m.ones.length
structure MBu.Ok (m : MBu) : Prop where
  ident : m.ident.length = 32
  key : m.key.length = 32
  signed : m.signed.key.length = 32
  sig : m.sig.length = 64
  ones : ∀ p ∈ m.ones, p.key.length = 32
  many : m.ones.length ≤ 60000
end Go.Proofs.YtcgbgmbnagmohaaGreat
namespace Go.Proofs.YtcgbgmbnagmohaaGreat
open Go.RowKit
set_option maxRecDepth 20000
attribute [local irreducible] wpList
theorem slR_get {α : Type} {z : Nat} {Rr : α → List Value → World → Prop} {l : List α} {a : Option Addr} {c : Nat} {w : World} (h : Fro 0 (SlR z Rr l a c) w) {i : Nat} (hi : i < l.length) : ∃ g f cs, a = some ⟨g, f, none⟩ ∧ g < w.heap.size ∧ cs.length = z ∧ w.rangeAt g (f + i * z) cs ∧ Fro 0 (Rr l[i] cs) w := by
  have one : ∀ V, SlR z Rr l a c V → ∃ g f cs, a = some ⟨g, f, none⟩ ∧ g < V.heap.size ∧ cs.length = z ∧ V.rangeAt g (f + i * z) cs ∧ Rr l[i] cs V := fun V hV => by
    obtain ⟨h1, css, h2, h3, h4, h5⟩ := hV
    obtain ⟨g, f, h6, h7, h8⟩ := h5 (fun hn => by rw [hn] at hi; cases hi)
    have hic : i < css.length := by rw [h2]; exact hi
    refine ⟨g, f, css[i], h6, h7, h3 _ (List.getElem_mem hic), ?_, h4 i _ _ (List.getElem?_eq_getElem hi) (List.getElem?_eq_getElem hic)⟩
    have e1 : css = css.take i ++ (css[i] :: css.drop (i + 1)) := by rw [← List.drop_eq_getElem_cons hic, List.take_append_drop]
    have hl : ((css.take i).flatten).length = i * z := by
      rw [flat_len (fun x hx => h3 x (List.mem_of_mem_take hx)), List.length_take, Nat.min_eq_left (by omega)]
    have e2 : css.flatten = (css.take i).flatten ++ (css[i] ++ (css.drop (i + 1)).flatten) := by
      conv => lhs; rw [e1]
      rw [List.flatten_append, List.flatten_cons]
    rw [e2] at h8
    have h9 := qcy (k := (css.take i).flatten.length) h8
    rw [List.drop_left' rfl, hl] at h9
    have h10 := qck (k := css[i].length) h9
    rwa [List.take_left' rfl] at h10
  obtain ⟨g, f, cs, h1, h2, h3, h4, _⟩ := one w h.now
  refine ⟨g, f, cs, h1, h2, h3, h4, fun V hV => ?_⟩
  obtain ⟨g2, f2, cs2, k1, k2, k3, k4, k5⟩ := one V (h V hV)
  rw [h1] at k1
  simp only [Option.some.injEq, Addr.mk.injEq] at k1
  obtain ⟨rfl, rfl, _⟩ := k1
  have e : cs = cs2 := by
    apply List.ext_getElem?
    intro j
    rcases Nat.lt_or_ge j z with hj | hj
    · have q1 := h4 j _ (List.getElem?_eq_getElem (by omega))
      have q2 := k4 j _ (List.getElem?_eq_getElem (by omega))
      rw [World.cell?_of_block (a := ⟨g, f + i * z + j, none⟩) (hV.block g (Nat.zero_le _) h2 (by simp)), q1] at q2
      rw [List.getElem?_eq_getElem (by omega), List.getElem?_eq_getElem (by omega)]
      exact q2
    · rw [List.getElem?_eq_none (by omega), List.getElem?_eq_none (by omega)]
  rw [e]; exact k5
def evsB (ms : List MEv) (i : Nat) : List (BitVec 8) := viB (ms.length : Int) ++ (ms.take i).flatMap evB
end Go.Proofs.YtcgbgmbnagmohaaGreat
