import Derived.Test.YtcgbgmbnagmohaaDoorWrB
namespace Go.Proofs.YtcgbgmbnagmohaaDoor
open Go.RowKit
set_option maxRecDepth 20000
theorem slR_sole {α : Type} {z g : Nat} {At : α → List Value → World → Prop} {x : α} {cs : List Value} {u : World} (hA : Arr g cs u) (hz : cs.length = z) (hR : Fro 0 (At x cs) u) : Fro 0 (SlR z At [x] (some ⟨g, 0, none⟩) 1) u := fun V hV =>
 ⟨Nat.le_refl _, [cs], rfl, (fun y hy => by rw [List.mem_singleton.1 hy]; exact hz), (fun i m c h1 h2 => by
  cases i with
  | zero => simp only [List.getElem?_cons_zero, Option.some.injEq] at h1 h2; subst h1 h2; exact hR V hV
  | succ i => simp at h1), fun _ => ⟨g, 0, rfl, Nat.lt_of_lt_of_le hA.lt hV.size, by simpa using (hA.same hV.size (hV.block g (Nat.zero_le _) hA.lt (by simp))).range⟩⟩
theorem slR_at {α : Type} {z : Nat} {At : α → List Value → World → Prop} {l : List α} {a : Option Addr} {c : Nat} {u : World} (h : SlR z At l a c u) {i : Nat} (hi : i < l.length) : ∃ g f cs, a = some ⟨g, f, none⟩ ∧ g < u.heap.size ∧ cs.length = z ∧ u.rangeAt g (f + i * z) cs ∧ At l[i] cs u := by
 obtain ⟨h1, css, h2, h3, h4, h5⟩ := h
 obtain ⟨g, f, h6, h7, h8⟩ := h5 (by intro e; rw [e] at hi; exact absurd hi (Nat.not_lt_zero _))
 have hi2 : i < css.length := by omega
 refine ⟨g, f, css[i], h6, h7, h3 _ (List.getElem_mem hi2), ?_, h4 i _ _ (List.getElem?_eq_getElem hi) (List.getElem?_eq_getElem hi2)⟩
 have key : ∀ (css : List (List Value)) (i : Nat), (∀ x ∈ css, x.length = z) → ∀ hi : i < css.length, (css.flatten.drop (i * z)).take z = css[i] := by
  intro css
  induction css with
  | nil => intro i _ hi; simp at hi
  | cons c css ih =>
   intro i hz hi
   have hc := hz c (List.mem_cons_self ..)
   cases i with
   | zero => simp [← hc]
   | succ i =>
    have := ih i (fun x hx => hz x (List.mem_cons_of_mem _ hx)) (by simpa using hi)
    rw [List.flatten_cons, show (i + 1) * z = c.length + i * z by rw [Nat.add_mul, hc]; omega, List.drop_append, List.drop_of_length_le (by omega), List.nil_append]
    simpa using this
 rw [← key css i h3 hi2]
 exact qcc (qcd h8)
end Go.Proofs.YtcgbgmbnagmohaaDoor
