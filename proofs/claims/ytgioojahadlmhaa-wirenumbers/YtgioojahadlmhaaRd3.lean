/- What keywardref10's getKey and getSig answer. -/
import Derived.Test.YtgioojahadlmhaaRd2
import Derived.Test.YtgioojahadlmhaaLateG
namespace Go.Proofs.Ytgioojahadlmhaa
open Go.RowKit
set_option maxRecDepth 20000
attribute [local irreducible] wpList

/-- n bytes, of which k stand. -/
def flN (l : List (BitVec 8)) (n k : Nat) : List (BitVec 8) := l.take k ++ List.replicate (n - k) 0
theorem flN_len {l : List (BitVec 8)} {n k : Nat} (h : l.length = n) (hk : k ≤ n) : (flN l n k).length = n := by unfold flN; rw [List.length_append, List.length_take, List.length_replicate]; omega
theorem flN_zero (l : List (BitVec 8)) (n : Nat) : (flN l n 0).map b8 = z8 n := by unfold flN; rw [List.take_zero, List.nil_append, Nat.sub_zero]; rfl
theorem flN_all {l : List (BitVec 8)} {n : Nat} (h : l.length = n) : flN l n n = l := by unfold flN; rw [List.take_of_length_le (by omega)]; simp
theorem flN_set {l : List (BitVec 8)} {n k : Nat} (h : l.length = n) (hk : k < n) : ((flN l n k).map b8).set k (b8 (l.getD k 0)) = (flN l n (k + 1)).map b8 := by
  rw [set_map]
  congr 1
  unfold flN
  have e : List.replicate (n - k) (0 : BitVec 8) = 0 :: List.replicate (n - (k + 1)) 0 := by rw [show n - k = (n - (k + 1)) + 1 by omega, List.replicate_succ]
  rw [e, List.set_append_right _ _ (by rw [List.length_take]; omega), List.length_take, Nat.min_eq_left (by omega), Nat.sub_self, List.set_cons_zero, List.take_succ_eq_append_getElem (by omega), List.append_assoc]
  simp [show k < l.length by omega]
/-- So many bytes that are read, or noughts. -/
def gkX (n : Nat) (b : List (BitVec 8)) (i : Nat) (e : Int) : List (BitVec 8) := if tkE b.length i e n = 0 then (b.drop i).take n else List.replicate n 0
theorem tk_room {m i n : Nat} {e : Int} (_hi : i ≤ m) (h : tkE m i e n = 0) : i + n ≤ m := by
  unfold tkE at h
  by_cases h1 : e = 0 ∧ (m : Int) - (i : Int) < (n : Int)
  · rw [if_pos h1] at h; omega
  · rw [if_neg h1] at h; subst h
    have : ¬ ((m : Int) - (i : Int) < (n : Int)) := fun h2 => h1 ⟨rfl, h2⟩
    omega
theorem gkX_len {n : Nat} {b : List (BitVec 8)} {i : Nat} {e : Int} (hi : i ≤ b.length) : (gkX n b i e).length = n := by
  unfold gkX
  split
  · rename_i h
    have := tk_room hi h
    rw [List.length_take, List.length_drop]; omega
  · exact List.length_replicate
theorem row_at {ao : Option Addr} {c i n : Nat} {b : List (BitVec 8)} {V : World} (h : Sl (.slice ao b.length c) b V) (hi : i + n ≤ b.length) (hn : 0 < n) : ∃ g f c', cutO ao (i + n) c i = .slice (some ⟨g, f, none⟩) n c' ∧ V.rangeAt g f (((b.drop i).take n).map b8) := by
  have h1 := h.part (lo := i) (hi := i + n) (by omega) (by omega)
  have e : (b.take (i + n)).drop i = (b.drop i).take n := by rw [List.drop_take, Nat.add_sub_cancel_left]
  rw [e] at h1
  have hl : ((b.drop i).take n).length = n := by rw [List.length_take, List.length_drop]; omega
  obtain ⟨g, f, c', h2, _, h3⟩ := h1.adr (by omega)
  rw [hl] at h2
  exact ⟨g, f, c', h2, h3⟩
theorem results_rows {fn : Func} {p q : Tmp} {t t' : TypeId} {d d' : TypeDesc} (h : fn.results = #[.cell p t, .cell q t']) {tmps : Array Value} {w : World} {g g' : Nat} {l l' : List Value} (ht : tmps.getD p undef = .pointer (some ⟨g, 0, none⟩)) (ht' : tmps.getD q undef = .pointer (some ⟨g', 0, none⟩)) (hu : Try.prog.underlying t = some d) (hd : d.isRow = true) (hu' : Try.prog.underlying t' = some d') (hd' : d'.isRow = true) (hl : (Try.prog.info? t).map (·.size) = some l.length) (hl' : (Try.prog.info? t').map (·.size) = some l'.length) (hr : w.rangeAt g 0 l) (hr' : w.rangeAt g' 0 l') :
    (results fn tmps).run Try.prog w = .ok (.tuple #[.agg l.toArray, .agg l'.toArray]) w := by
  have e := run_loadVar_mid (P := Try.prog) w g 0 t l d hr hu hd hl
  have e' := run_loadVar_mid (P := Try.prog) w g' 0 t' l' d' hr' hu' hd' hl'
  rw [Array.getD_eq_getD_getElem?] at ht ht'
  simp only [results, h]
  simp [ht, ht', asAddr, e, e', Result.andThen]
theorem run_bldW0 {w : World} {ρ : Operand → Value} {o : Oper} {t : TypeId} {cells : Array Value} (ho : o.op = .build t #[]) (h : Try.prog.built t [] = some cells) : (execOp ρ o).run Try.prog w = .ok (.value (.agg cells)) w := run_bld ho (by simpa using h)
end Go.Proofs.Ytgioojahadlmhaa
