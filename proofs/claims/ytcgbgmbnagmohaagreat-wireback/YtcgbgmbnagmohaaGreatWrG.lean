import Derived.Test.YtcgbgmbnagmohaaGreatWrF
namespace Go.Proofs.YtcgbgmbnagmohaaGreat
open Go.RowKit
set_option maxRecDepth 20000
attribute [local irreducible] wpList
structure MSlot.Ok (m : MSlot) : Prop where
  signed : m.signed.key.length = 32
  sig : m.sig.length = 64
  ones : ∀ p ∈ m.ones, p.key.length = 32
  many : m.ones.length ≤ 60000
  mail : ∀ p ∈ m.mail, p.Ok
  much : m.mail.length ≤ 60000
  size : (evsB m.mail m.mail.length).length ≤ 8000000
structure MAc.Ok (m : MAc) : Prop where
  pin : m.pin.length ≤ 100000
  ls : m.ls.Ok
  slots : ∀ p ∈ m.slots, p.Ok
  many : m.slots.length ≤ 60000
  tokens : ∀ p ∈ m.tokens, p.length = 32
  much : m.tokens.length ≤ 60000
def slB (m : MSlot) : List (BitVec 8) := viB m.dev ++ pkB m.signed ++ m.sig ++ psB m.ones m.ones.length ++ viB m.last ++ evsB m.mail m.mail.length
def acF (m : MAc) (i : Nat) : List (BitVec 8) := viB m.id ++ txB m.pin ++ viB m.wrong ++ viB m.till ++ lsB m.ls ++ viB (m.slots.length : Int) ++ (m.slots.take i).flatMap slB
def acG (m : MAc) (i : Nat) : List (BitVec 8) := acF m m.slots.length ++ viB (m.tokens.length : Int) ++ (m.tokens.take i).flatten
def acB (m : MAc) : List (BitVec 8) := acG m m.tokens.length
theorem slAt_fix {m : MSlot} {X : List Value} {w : World} (hm : m.Ok) (h : Fro 0 (slAt m X) w) : ∃ a c a2 c2, X = slR (.int .i64 m.dev) (pkC m.signed) (m.sig.map b8) (.slice a m.ones.length c) (.int .i64 m.last) (.slice a2 m.mail.length c2) ∧ Fro 0 (SlR 33 pkAt m.ones a c) w ∧ Fro 0 (SlR 72 evAt m.mail a2 c2) w := by
  obtain ⟨a, c, a2, c2, hq, -⟩ := h.now
  have t2 := pkC_len' hm.signed
  have t3 : (m.sig.map b8).length = 64 := by rw [List.length_map, hm.sig]
  have key : ∀ V, Ext 0 [] w V → SlR 33 pkAt m.ones a c V ∧ SlR 72 evAt m.mail a2 c2 V := fun V hV => by
    obtain ⟨d2, d3, d4, d5, h1, h3, h4⟩ := h V hV
    rw [hq] at h1
    have e2 : (_ : List Value)[98]? = (_ : List Value)[98]? := congrArg (fun l : List Value => l[98]?) h1
    have e3 : (_ : List Value)[100]? = (_ : List Value)[100]? := congrArg (fun l : List Value => l[100]?) h1
    rw [slR_Ones t2 t3, slR_Ones t2 t3] at e2
    rw [slR_Mail t2 t3, slR_Mail t2 t3] at e3
    simp only [Option.some.injEq, Value.slice.injEq] at e2 e3
    obtain ⟨rfl, _, rfl⟩ := e2
    obtain ⟨rfl, _, rfl⟩ := e3
    exact ⟨h3, h4⟩
  exact ⟨a, c, a2, c2, hq, fun V hV => (key V hV).1, fun V hV => (key V hV).2⟩
theorem acAt_fix {m : MAc} {X : List Value} {w : World} (hm : m.Ok) (h : Fro 0 (acAt m X) w) : ∃ c1 a c a2 c2, X = acR (.int .i64 m.id) (.string (strOf m.pin)) (.int .i64 m.wrong) (.int .i64 m.till) c1 (.slice a m.slots.length c) (.slice a2 m.tokens.length c2) ∧ c1.length = 99 ∧ One c1 ∧ Fro 0 (lsAt m.ls c1) w ∧ Fro 0 (SlR 101 slAt m.slots a c) w ∧ Fro 0 (SlR 32 tkAt m.tokens a2 c2) w := by
  obtain ⟨c1, a, c, a2, c2, hq, q1, -⟩ := h.now
  have l1 := lsAt_len hm.ls q1
  have key : ∀ V, Ext 0 [] w V → lsAt m.ls c1 V ∧ SlR 101 slAt m.slots a c V ∧ SlR 32 tkAt m.tokens a2 c2 V := fun V hV => by
    obtain ⟨d1, d2, d3, d4, d5, h1, h2, h3, h4⟩ := h V hV
    have m1 := lsAt_len hm.ls h2
    rw [hq] at h1
    have e1 : (_ : List Value) = (_ : List Value) := congrArg (fun l : List Value => (l.drop 4).take 99) h1
    have e2 : (_ : List Value)[103]? = (_ : List Value)[103]? := congrArg (fun l : List Value => l[103]?) h1
    have e3 : (_ : List Value)[104]? = (_ : List Value)[104]? := congrArg (fun l : List Value => l[104]?) h1
    rw [acR_List l1, acR_List m1] at e1
    rw [qc1 l1, qc1 m1] at e2
    rw [qcn l1, qcn m1] at e3
    simp only [Option.some.injEq, Value.slice.injEq] at e2 e3
    obtain ⟨rfl, _, rfl⟩ := e2
    obtain ⟨rfl, _, rfl⟩ := e3
    subst e1
    exact ⟨h2, h3, h4⟩
  exact ⟨c1, a, c, a2, c2, hq, l1, lsAt_one q1, fun V hV => (key V hV).1, fun V hV => (key V hV).2.1, fun V hV => (key V hV).2.2⟩
end Go.Proofs.YtcgbgmbnagmohaaGreat
