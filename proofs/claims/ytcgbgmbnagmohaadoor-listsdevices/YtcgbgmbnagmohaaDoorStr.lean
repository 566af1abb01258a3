import Derived.Test.YtcgbgmbnagmohaaDoorGenA
import Derived.Test.YtcgbgmbnagmohaaDoorSl
import Derived.Great.BuildSlice
import Derived.Lib.SlBytesConst
import Derived.Laws.AppendOwn
import Derived.Laws.OwnMore
import Derived.Test.YtcgbgmbnagmohaaDoorLateT
import Derived.Laws.BytesString
import Derived.Laws.Small
namespace Go.Proofs.YtcgbgmbnagmohaaDoor
open Go.RowKit
set_option maxRecDepth 20000
section
variable {w : World} {ρ : Operand → Value} {o : Oper} {x y : Operand}
theorem run_cvb {C : Array Value} {n c : Nat} (ho : o.op = .convert 22 22 x) (hx : ρ x = .slice (some ⟨w.heap.size, 0, none⟩) n c) : (execOp ρ o).run Tryd.prog (w.alloc (.cells C 5)) = .ok (.value (.slice (some ⟨w.heap.size, 0, none⟩) n c)) (w.alloc (.cells C 5 (C.size, C.size + 1))) := by
 have h := Lib.run_convert_bytes_const (P := Tryd.prog) w 22 5 C n c Tryd.underlying22 Tryd.underlying5
 unfold execOp
 simp only [ho, hx, Sem.run_bind, h]
 simp [go_sem]
end
section
variable {w : World} {ρ : Operand → Value} {o : Oper} {x y : Operand} {t t' : TypeId}
end
end Go.Proofs.YtcgbgmbnagmohaaDoor
namespace Go.Proofs.YtcgbgmbnagmohaaDoor
open Go.RowKit
set_option maxRecDepth 20000
theorem Sl.own {w : World} {base : Nat} {v : Value} {l : List (BitVec 8)} (h : w.ownsRow base 5 1 v l.length (l.map b8)) : Sl v l w := by
 rcases h.2 with ⟨rfl, hn⟩ | ⟨g, cap, cur, rfl, hb, hg, h1, h2, h3, h4⟩
 ·exact ⟨none, 0, by rw [hn], by omega, fun he => absurd (List.eq_nil_of_length_eq_zero hn) he⟩
 ·refine ⟨_, cap, rfl, h1, fun _ => ⟨g, 0, rfl, (Array.getElem?_eq_some_iff.1 hg).1, fun j v hv => ?_⟩⟩
  have hj : j < (l.map b8).length := by
   rcases Nat.lt_or_ge j (l.map b8).length with h | h
   ·exact h
   ·rw [List.getElem?_eq_none h] at hv; cases hv
  have hj' : j < l.length := by simpa using hj
  rw [Nat.zero_add]
  simp only [World.cell?, hg]
  rw [← hv, ← h4]
  simp [hj']
section
variable {w : World} {ops : Array Oper} {Q : Exit → Act → World → Prop} {rest : List Oper} {o : Oper} {a : Act} {α : Type}
end
end Go.Proofs.YtcgbgmbnagmohaaDoor
namespace Go.Proofs.YtcgbgmbnagmohaaDoor
open Go.RowKit
set_option maxRecDepth 20000
section
variable {w : World} {ops : Array Oper} {Q : Exit → Act → World → Prop} {o : Oper} {a : Act} {α : Type} {S : World → Prop}
end
end Go.Proofs.YtcgbgmbnagmohaaDoor
namespace Go.Proofs.YtcgbgmbnagmohaaDoor
open Go.RowKit
set_option maxRecDepth 20000
theorem Sl.front {ao : Option Addr} {n c k : Nat} {l : List (BitVec 8)} {u : World} (h : Sl (.slice ao n c) l u) (hk : k ≤ l.length) : Sl (.slice ao k c) (l.take k) u := by
 obtain ⟨ao', c', h1, h2, h3⟩ := h
 injection h1 with e1 _ e2
 subst e1 e2
 refine ⟨_, c, by rw [List.length_take, Nat.min_eq_left hk], by rw [List.length_take]; omega, fun hn => ?_⟩
 obtain ⟨b, f, rfl, h5, h6⟩ := h3 (by intro e; apply hn; rw [e]; simp)
 exact ⟨b, f, rfl, h5, by rw [List.map_take]; exact qcc h6⟩
def strOf (l : List (BitVec 8)) : ByteArray := (l.map fun x => (x.toNat : Int)).foldl (fun r n => r.push (UInt8.ofNat n.toNat)) ByteArray.empty
section
variable {w : World} {ρ : Operand → Value} {o : Oper} {x y : Operand} {t t' : TypeId}
theorem run_slo {e : TypeId} {ao : Option Addr} {n c h : Nat} {k : IntKind} (ho : o.op = .slice t x none (some y) none) (ht : Tryd.prog.underlying t = some (.slice e)) (hs : (Tryd.prog.info? e).map (·.size) = some 1) (hx : ρ x = .slice ao n c) (hy : ρ y = .int k (h : Int)) (hc : h ≤ c) : (execOp ρ o).run Tryd.prog w = .ok (.value (.slice ao h c)) w := by
 have el : Tryd.prog.elem t = e := by unfold Program.elem; rw [ht]
 have ht' : Tryd.prog.underlying t = some (.slice (Tryd.prog.elem t)) := by rw [el]; exact ht
 have h1 := run_slice_h (P := Tryd.prog) (w := w) t ao n c ht' k (h : Int) (by omega) (by omega)
 obtain ⟨inf, hi, h2⟩ := Option.map_eq_some_iff.1 hs
 have hz : (sizeOf e).run Tryd.prog w = .ok 1 w := by simp [sizeOf, typeInfo, go_sem, hi, h2]
 rw [el, hz] at h1
 have h3 := run_sliceAt_slice (P := Tryd.prog) (w := w) t (.slice ao n c) none (some (.int k (h : Int))) none ht'
 unfold execOp
 simp only [ho, hx, hy, Option.map_some, Option.map_none, Sem.run_bind, h3, h1]
 simp [go_sem, Addr.add]
set_option maxRecDepth 20000 in
theorem run_str {v : Value} {l : List (BitVec 8)} (ho : o.op = .convert 22 9 x) (hx : ρ x = v) (hv : Sl v l w) : (execOp ρ o).run Tryd.prog w = .ok (.value (.string (strOf l))) w := by
 obtain ⟨ao, c, rfl, h2, h3⟩ := hv
 have h := run_convert_bytes_string (P := Tryd.prog) w 22 9 5 ao l.length c Tryd.underlying22 Tryd.underlying5 Tryd.underlying9
 have hb : (Conv.bytesToString (.slice ao l.length c)).run Tryd.prog w = .ok (.string (strOf l)) w := by
  cases ao with
  | none =>
   have hl : l = [] := by
    by_cases hl : l = []
    ·exact hl
    ·obtain ⟨b, f, h4, _⟩ := h3 hl; cases h4
   subst hl
   rfl
  | some a =>
   refine run_bytesToString w a l.length c (l.map fun x => (x.toNat : Int)) ?_
   rw [List.map_map]
   have hc : ∀ j v, (l.map b8)[j]? = some v → w.cell? (a.add j) = some v := fun j v hv => by
    by_cases hl : l = []
    ·subst hl; cases hv
    ·obtain ⟨b, f, h4, _, h5⟩ := h3 hl
     injection h4 with h4
     subst h4
     rw [Addr.add_mid]
     exact h5 j v hv
   have := run_loadCells_list (P := Tryd.prog) w a (l.map b8) hc
   rw [List.length_map] at this
   exact this
 rw [hb] at h
 unfold execOp
 simp only [ho, hx, Sem.run_bind, h]
 simp [go_sem]
end
end Go.Proofs.YtcgbgmbnagmohaaDoor
