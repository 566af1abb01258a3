/- What keywardref10's getNumber answers. -/
import Derived.Test.YtgioojahadlmhaaRd1
namespace Go.Proofs.Ytgioojahadlmhaa
open Go.RowKit
set_option maxRecDepth 20000
attribute [local irreducible] wpList

theorem Sl.ext {v : Value} {l : List (BitVec 8)} {u V : World} (h : Sl v l u) (hV : Ext 0 [] u V) : Sl v l V := by
  obtain ⟨ao, c, h1, h2, h3⟩ := h
  refine ⟨ao, c, h1, h2, fun hn => ?_⟩
  obtain ⟨b, f, h4, h5, h6⟩ := h3 hn
  exact ⟨b, f, h4, Nat.lt_of_lt_of_le h5 hV.size, fun j x hx => (World.cell?_of_block (a := ⟨b, f + j, none⟩) (hV.block b (Nat.zero_le _) h5 (by simp))).trans (h6 j x hx)⟩
theorem Ev.drop {w u : World} {L : List (Nat × List Value)} {K : List Nat} {F H : World → Prop} {p : Nat × List Value} (h : Ev w (p :: L) K F H u) : Ev w L K F H u :=
  have hm : ∀ b ∈ K ++ L.map (·.1), b ∈ K ++ (p :: L).map (·.1) := fun b hb => by
    rcases List.mem_append.1 hb with hb | hb
    · exact List.mem_append.2 (.inl hb)
    · exact List.mem_append.2 (.inr (List.mem_cons_of_mem _ hb))
  ⟨h.mv.drop, h.kb, fun V hV => h.fs V (hV.mono (Nat.le_refl _) hm), fun V hV => h.hs V (hV.mono (Nat.le_refl _) hm)⟩
section
variable {w : World} {ρ : Operand → Value} {o : Oper} {t t' : TypeId} {x y : Operand} {a b : Nat}
theorem run_rem8N (ho : o.op = .binOp .rem 5 x y t') (hx : ρ x = .int .u8 (a : Int)) (hy : ρ y = .int .u8 (b : Int)) (ha : a < 256) (h2 : 0 < b) : (execOp ρ o).run Try.prog w = .ok (.value (.int .u8 ((a % b : Nat) : Int))) w := by
  obtain ⟨dst, op, type, pos, after, guard⟩ := o
  subst ho
  have e : ((a : Int).tmod (b : Int)) = ((a % b : Nat) : Int) := by rw [Int.natCast_emod, Int.tmod_eq_emod_of_nonneg (by omega)]
  have hlt : a % b < 256 := Nat.lt_of_le_of_lt (Nat.mod_le _ _) ha
  generalize a % b = r at *
  go_simp
  omega
theorem run_cvu8N (ho : o.op = .convert 5 3 x) (hx : ρ x = .int .u8 (a : Int)) (ha : a < 256) : (execOp ρ o).run Try.prog w = .ok (.value (.int .i64 (a : Int))) w := by
  rw [run_cv ho Try.underlying5 Try.underlying3 hx, i64_fit (by omega) (by omega)]
end
/-- A number that is read: rounds left, the next place, so much, times so much. -/
def gnL (b : List (BitVec 8)) (most : Int) : Nat → Nat → Nat → Nat → Nat × Int × Int
  | 0, i, _, _ => (i, 11, 0)
  | k + 1, i, n, t => if b.length ≤ i then (i, 10, 0) else
    if (b.getD i 0).toNat < 128 then
      (if ((b.getD i 0).toNat = 0 ∧ k < 5) ∨ most < ((n + (b.getD i 0).toNat % 128 * t : Nat) : Int) then (i + 1, 11, 0) else (i + 1, 0, ((n + (b.getD i 0).toNat % 128 * t : Nat) : Int)))
    else gnL b most k (i + 1) (n + (b.getD i 0).toNat % 128 * t) (t * 128)
def gn (b : List (BitVec 8)) (most : Int) (i : Nat) (e : Int) : Nat × Int × Int := if e = 0 then gnL b most 6 i 0 1 else (i, e, 0)
theorem one_at {ao : Option Addr} {c i : Nat} {b : List (BitVec 8)} {V : World} (h : Sl (.slice ao b.length c) b V) (hi : i < b.length) : ∃ g f c', cutO ao (i + 1) c i = .slice (some ⟨g, f, none⟩) 1 c' ∧ V.cell? ⟨g, f + 0 * 1, none⟩ = some (.int .u8 ((b.getD i 0).toNat : Int)) := by
  have h1 := h.part (lo := i) (hi := i + 1) (by omega) (by omega)
  have e : (b.take (i + 1)).drop i = [b.getD i 0] := by
    rw [List.take_succ_eq_append_getElem hi, List.drop_append_of_le_length (by rw [List.length_take]; omega), List.drop_of_length_le (by rw [List.length_take]; omega)]
    simp [hi]
  rw [e] at h1
  obtain ⟨g, f, c', h2, _, h3⟩ := h1.adr (by simp)
  exact ⟨g, f, c', h2, h3 0 _ rfl⟩
end Go.Proofs.Ytgioojahadlmhaa
