import Derived.Test.YtgioojahadlmhaaGen
import Derived.Test.YtgioojahadlmhaaS5
import Derived.Test.YtgioojahadlmhaaGenA
import Derived.Test.YtgioojahadlmhaaStr
import Derived.Laws.IdiomStrings
import Derived.Test.YtgioojahadlmhaaLateG
namespace Go.Proofs.Ytgioojahadlmhaa
open Go.RowKit
set_option maxRecDepth 20000
end Go.Proofs.Ytgioojahadlmhaa
namespace Go.Proofs.Ytgioojahadlmhaa
open Go.RowKit
set_option maxRecDepth 20000
section
variable {w : World} {ρ : Operand → Value} {o : Oper} {x y : Operand} {t t' : TypeId}
end
end Go.Proofs.Ytgioojahadlmhaa
namespace Go.Proofs.Ytgioojahadlmhaa
open Go.RowKit
set_option maxRecDepth 20000
structure Cat (g : Nat) (vs : List Value) (ls : List (List (BitVec 8))) (u : World) : Prop where
  lt : g < u.heap.size
  R : u.rangeAt g 0 vs
  S : ∀ i, i < ls.length → ∃ v, vs[i]? = some v ∧ Sl v (ls.getD i []) u
theorem Cat.below {g : Nat} {vs : List Value} {ls : List (List (BitVec 8))} {u u' : World} (h : Cat g vs ls u) (hb : Below u.heap.size u u') : Cat g vs ls u' :=
  ⟨Nat.lt_of_lt_of_le h.lt hb.size, qbw h.R h.lt hb, fun i hi => by obtain ⟨v, h1, h2⟩ := h.S i hi; exact ⟨v, h1, h2.below hb⟩⟩
end Go.Proofs.Ytgioojahadlmhaa
namespace Go.Proofs.Ytgioojahadlmhaa
open Go.RowKit
set_option maxRecDepth 20000
section
variable {w : World} {ρ : Operand → Value} {o : Oper} {x y : Operand} {t t' : TypeId}
theorem run_minI {a b : Int} (ts : Array TypeId) (ho : o.op = .call { callee := .builtin .min, args := #[x, y], argTypes := ts }) (hx : ρ x = .int .i64 a) (hy : ρ y = .int .i64 b) : (execOp ρ o).run Try.prog w = .ok (.value (.int .i64 (min a b))) w := by
  unfold execOp
  have h := run_min_int2 (P := Try.prog) (w := w) ts o.type .i64 .i64 a b
  have e : (if b < a then b else a) = min a b := by split <;> omega
  rw [e] at h
  simp [ho, resolve, invoke, builtin, hx, hy, h, Result.andThen]
theorem run_maxI {a b : Int} (ts : Array TypeId) (ho : o.op = .call { callee := .builtin .max, args := #[x, y], argTypes := ts }) (hx : ρ x = .int .i64 a) (hy : ρ y = .int .i64 b) : (execOp ρ o).run Try.prog w = .ok (.value (.int .i64 (max a b))) w := by
  unfold execOp
  have h := run_max_int2 (P := Try.prog) (w := w) ts o.type .i64 .i64 a b
  have e : (if b > a then b else a) = max a b := by split <;> omega
  rw [e] at h
  simp [ho, resolve, invoke, builtin, hx, hy, h, Result.andThen]
end
def viF : Nat → Nat → List (BitVec 8)
  | 0, n => [BitVec.ofNat 8 n]
  | k + 1, n => if n ≤ 127 then [BitVec.ofNat 8 n] else BitVec.ofNat 8 (n % 128 + 128) :: viF k (n / 128)
def clN (n : Int) : Nat := (max 0 (min n 1099511627776)).toNat
def viB (n : Int) : List (BitVec 8) := viF 5 (clN n)
theorem viF_len : ∀ k n, (viF k n).length ≤ k + 1
  | 0, _ => by simp [viF]
  | k + 1, n => by
    rw [viF]; split
    · simp
    · have := viF_len k (n / 128); simp; omega
theorem qbq (n : Int) : (viB n).length ≤ 6 := viF_len 5 _
theorem viF_pos (k n : Nat) : 0 < (viF k n).length := by
  cases k with
  | zero => simp [viF]
  | succ k => rw [viF]; split <;> simp
theorem clN_le (n : Int) : clN n ≤ 1099511627776 := by unfold clN; omega
structure NuI (n : Nat) (pre : List (BitVec 8)) (m : Nat) : Prop where
  ex : ∃ k, viF 5 n = pre ++ viF k m ∧ m < 128 ^ (k + 1) ∧ pre.length + k ≤ 5
theorem NuI.start {n : Nat} (h : n ≤ 1099511627776) : NuI n [] n := ⟨5, rfl, by omega, by simp⟩
theorem NuI.step {n m : Nat} {pre : List (BitVec 8)} (h : NuI n pre m) (hm : 127 < m) : NuI n (pre ++ [BitVec.ofNat 8 (m % 128 + 128)]) (m / 128) := by
  obtain ⟨k, e, h1, h2⟩ := h.ex
  cases k with
  | zero => omega
  | succ k =>
    refine ⟨k, ?_, ?_, by rw [List.length_append]; simp; omega⟩
    · rw [e, viF, if_neg (by omega), List.append_assoc]; rfl
    · rw [Nat.pow_succ] at h1
      exact Nat.div_lt_of_lt_mul (by rwa [Nat.mul_comm] at h1)
theorem NuI.done {n m : Nat} {pre : List (BitVec 8)} (h : NuI n pre m) (hm : m ≤ 127) : viF 5 n = pre ++ [BitVec.ofNat 8 m] := by
  obtain ⟨k, e, _, _⟩ := h.ex
  cases k with
  | zero => exact e
  | succ k => rw [e, viF, if_pos hm]
theorem NuI.len {n m : Nat} {pre : List (BitVec 8)} (h : NuI n pre m) : pre.length ≤ 5 := by obtain ⟨k, _, _, h2⟩ := h.ex; omega
theorem NuI.le {n m : Nat} {pre : List (BitVec 8)} (h : NuI n pre m) : m < 4398046511104 := by
  obtain ⟨k, _, h1, h2⟩ := h.ex
  have : 128 ^ (k + 1) ≤ 128 ^ 6 := Nat.pow_le_pow_right (by omega) (by omega)
  omega
end Go.Proofs.Ytgioojahadlmhaa
namespace Go.Proofs.Ytgioojahadlmhaa
open Go.RowKit
set_option maxRecDepth 20000
end Go.Proofs.Ytgioojahadlmhaa
namespace Go.Proofs.Ytgioojahadlmhaa
open Go.RowKit
set_option maxRecDepth 20000
structure Tl (w : World) (v : Value) (l : List (BitVec 8)) (u : World) : Prop where
  bl : Below w.heap.size w u
  s : Sl v l u
theorem Tl.of {w u : World} {v : Value} {l : List (BitVec 8)} (h : S5 w v l u) : Tl w v l u := ⟨h.bl, h.sl⟩
def trB (b : Bool) : List (BitVec 8) := [if b then 1 else 0]
end Go.Proofs.Ytgioojahadlmhaa
namespace Go.Proofs.Ytgioojahadlmhaa
open Go.RowKit
set_option maxRecDepth 20000
def sbL (s : ByteArray) : List (BitVec 8) := s.data.toList.map fun b => b.toBitVec
theorem sbL_len (s : ByteArray) : (sbL s).length = s.size := by unfold sbL; rw [List.length_map]; rfl
theorem strOf_eq (l : List (BitVec 8)) : strOf l = ⟨(l.map UInt8.ofBitVec).toArray⟩ := by
  have h := foldl_push_byteCells (l.map UInt8.ofBitVec) ByteArray.empty
  have e : (l.map UInt8.ofBitVec).map (fun b => (b.toNat : Int)) = l.map fun x => (x.toNat : Int) := by rw [List.map_map]; rfl
  rw [e] at h
  unfold strOf
  rw [h, show ByteArray.empty.data = #[] from rfl, Array.empty_append]
theorem sbL_strOf (l : List (BitVec 8)) : sbL (strOf l) = l := by
  rw [strOf_eq]; unfold sbL
  simp only [List.map_map]
  conv => rhs; rw [← List.map_id l]
  exact List.map_congr_left fun x _ => rfl
section
variable {w : World} {ρ : Operand → Value} {o : Oper} {x y : Operand} {t t' : TypeId}
theorem run_lens {s : ByteArray} (ho : o.op = .call { callee := .builtin .len, args := #[x], argTypes := #[9] }) (hx : ρ x = .string s) : (execOp ρ o).run Try.prog w = .ok (.value (.int .i64 (s.size : Int))) w := by
  obtain ⟨dst, op, type, pos, after, guard⟩ := o
  subst ho
  have hu := Try.underlying9
  go_simp
end
end Go.Proofs.Ytgioojahadlmhaa
namespace Go.Proofs.Ytgioojahadlmhaa
open Go.RowKit
set_option maxRecDepth 20000
structure MPk where
  id : Int
  key : List (BitVec 8)
def pkC (p : MPk) : List Value := .int .i64 p.id :: p.key.map b8
def pkB (p : MPk) : List (BitVec 8) := viB p.id ++ p.key
theorem pkC_len {p : MPk} (h : p.key.length = 32) : (pkC p).length = 33 := by unfold pkC; rw [List.length_cons, List.length_map, h]
structure MHd where
  r : List (BitVec 8)
  prev : Int
  n : Int
def hdC (h : MHd) : List Value := h.r.map b8 ++ [.int .i64 h.prev, .int .i64 h.n]
def hdB (h : MHd) : List (BitVec 8) := h.r ++ viB h.prev ++ viB h.n
theorem hdC_len {h : MHd} (e : h.r.length = 32) : (hdC h).length = 34 := by unfold hdC; rw [List.length_append, List.length_map, e]; rfl
end Go.Proofs.Ytgioojahadlmhaa
