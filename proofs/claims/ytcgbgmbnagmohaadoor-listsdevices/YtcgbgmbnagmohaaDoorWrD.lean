import Derived.Test.YtcgbgmbnagmohaaDoorWrB
namespace Go.Proofs.YtcgbgmbnagmohaaDoor
open Go.RowKit
set_option maxRecDepth 20000
attribute [local irreducible] wpList
def Since (w u : World) : Prop := Below w.heap.size w u
structure MLs.Ok (m : MLs) : Prop where
 ident : m.ident.length = 32
 sig : m.sig.length = 64
 devs : ∀ p ∈ m.devs, p.key.length = 32
 many : m.devs.length ≤ 60000
def lsF (m : MLs) (i : Nat) : List (BitVec 8) := viB m.acc ++ viB m.ver ++ m.ident ++ viB (m.devs.length : Int) ++ (m.devs.take i).flatMap pkB
def lsB (m : MLs) : List (BitVec 8) := lsF m m.devs.length ++ m.sig
theorem lsF_succ {m : MLs} {i : Nat} (h : i < m.devs.length) : lsF m (i + 1) = lsF m i ++ pkB m.devs[i] := by
 unfold lsF
 rw [List.take_succ_eq_append_getElem h, List.flatMap_append]
 simp
theorem lsF_len {m : MLs} (h : m.Ok) (i : Nat) (hi : i ≤ m.devs.length) : (lsF m i).length ≤ 50 + i * 38 := by
 induction i with
 | zero =>
  have h1 := viB_len m.acc
  have h2 := viB_len m.ver
  have h3 := viB_len (m.devs.length : Int)
  have h4 := h.ident
  simp only [lsF, List.take_zero, List.flatMap_nil, List.length_append, List.length_nil]
  omega
 | succ i ih =>
  rw [lsF_succ (by omega), List.length_append]
  have := pkB_len (h.devs _ (List.getElem_mem (show i < m.devs.length by omega)))
  have := ih (by omega)
  omega
theorem qcx {m : MLs} {X : List Value} {w : World} (hm : m.Ok) (h : Fro 0 (lsAt m X) w) : ∃ a c, X = lsR (.int .i64 m.acc) (.int .i64 m.ver) (m.ident.map b8) (.slice a m.devs.length c) (m.sig.map b8) ∧ Fro 0 (SlR 33 pkAt m.devs a c) w := by
 obtain ⟨a0, c0, hq, -⟩ := h.now
 refine ⟨a0, c0, hq, fun V hV => ?_⟩
 obtain ⟨a1, c1, h1, h2⟩ := h V hV
 rw [hq] at h1
 have h3 : (_ : List Value)[34]? = (_ : List Value)[34]? := congrArg (fun l : List Value => l[34]?) h1
 rw [qal (by rw [List.length_map, hm.ident]), qal (by rw [List.length_map, hm.ident])] at h3
 simp only [Option.some.injEq, Value.slice.injEq] at h3
 obtain ⟨rfl, _, rfl⟩ := h3
 exact h2
end Go.Proofs.YtcgbgmbnagmohaaDoor
namespace Go.Proofs.YtcgbgmbnagmohaaDoor
open Go.RowKit
set_option maxRecDepth 20000
attribute [local irreducible] wpList
theorem lsAt_len {m : MLs} {c : List Value} {V : World} (hm : m.Ok) (h : lsAt m c V) : c.length = 99 := by
 obtain ⟨_, _, rfl, -⟩ := h
 exact qas (by rw [List.length_map, hm.ident]) (by rw [List.length_map, hm.sig])
theorem lsAt_one {m : MLs} {c : List Value} {V : World} (h : lsAt m c V) : One c := by
 obtain ⟨_, _, rfl, -⟩ := h
 exact lsR_one rfl rfl (One.b8 _) rfl (One.b8 _)
structure MRp.Ok (m : MRp) : Prop where
 err0 : 0 ≤ m.err
 err1 : m.err < 65536
 ls : m.ls.Ok
 bu : m.bu.Ok
 mail : ∀ p ∈ m.mail, p.Ok
 many : m.mail.length ≤ 60000
 size : (evsB m.mail m.mail.length).length ≤ 8000000
end Go.Proofs.YtcgbgmbnagmohaaDoor
