import Derived.Test.YtcgbgmbnagmohaaGreatWrB
namespace Go.Proofs.YtcgbgmbnagmohaaGreat
open Go.RowKit
set_option maxRecDepth 20000
attribute [local irreducible] wpList
def Since (w u : World) : Prop := Below w.heap.size w u
structure MLs.Ok (m : MLs) : Prop where
  ident : m.ident.length = 32
  sig : m.sig.length = 64
  devs : ∀ p ∈ m.devs, p.key.length = 32
  many : m.devs.length ≤ 60000
def lsF (m : MLs) (i : Nat) : List (BitVec 8) := viB m.acc ++ viB m.ver ++ m.ident ++ viB (m.devs.length : Int) ++ (m.devs.take i).flatMap pkB
def lsB (m : MLs) : List (BitVec 8) := lsF m m.devs.length ++ m.sig
theorem lsAt_fix {m : MLs} {X : List Value} {w : World} (hm : m.Ok) (h : Fro 0 (lsAt m X) w) : ∃ a c, X = lsR (.int .i64 m.acc) (.int .i64 m.ver) (m.ident.map b8) (.slice a m.devs.length c) (m.sig.map b8) ∧ Fro 0 (SlR 33 pkAt m.devs a c) w := by
  obtain ⟨a0, c0, hq, -⟩ := h.now
  refine ⟨a0, c0, hq, fun V hV => ?_⟩
  obtain ⟨a1, c1, h1, h2⟩ := h V hV
  rw [hq] at h1
  have h3 : (_ : List Value)[34]? = (_ : List Value)[34]? := congrArg (fun l : List Value => l[34]?) h1
  rw [qce (by rw [List.length_map, hm.ident]), qce (by rw [List.length_map, hm.ident])] at h3
  simp only [Option.some.injEq, Value.slice.injEq] at h3
  obtain ⟨rfl, _, rfl⟩ := h3
  exact h2
end Go.Proofs.YtcgbgmbnagmohaaGreat
namespace Go.Proofs.YtcgbgmbnagmohaaGreat
open Go.RowKit
set_option maxRecDepth 20000
attribute [local irreducible] wpList
theorem lsAt_len {m : MLs} {c : List Value} {V : World} (hm : m.Ok) (h : lsAt m c V) : c.length = 99 := by
  obtain ⟨_, _, rfl, -⟩ := h
  exact qas (by rw [List.length_map, hm.ident]) (by rw [List.length_map, hm.sig])
theorem lsAt_one {m : MLs} {c : List Value} {V : World} (h : lsAt m c V) : One c := by
  obtain ⟨_, _, rfl, -⟩ := h
  exact qch rfl rfl (One.b8 _) rfl (One.b8 _)
theorem buAt_len {m : MBu} {c : List Value} {V : World} (hm : m.Ok) (h : buAt m c V) : c.length = 164 := by
  obtain ⟨_, _, rfl, -⟩ := h
  exact qbg (by rw [List.length_map, hm.ident]) (by rw [List.length_map, hm.key]) (pkC_len' hm.signed) (by rw [List.length_map, hm.sig])
theorem buAt_one {m : MBu} {c : List Value} {V : World} (hm : m.Ok) (h : buAt m c V) : One c := by
  obtain ⟨_, _, rfl, -⟩ := h
  exact buR_one rfl rfl (One.b8 _) (One.b8 _) (pkC_one hm.signed) (One.b8 _) rfl
structure MRp.Ok (m : MRp) : Prop where
  err0 : 0 ≤ m.err
  err1 : m.err < 65536
  ls : m.ls.Ok
  bu : m.bu.Ok
  mail : ∀ p ∈ m.mail, p.Ok
  many : m.mail.length ≤ 60000
  size : (evsB m.mail m.mail.length).length ≤ 8000000
def rpB (m : MRp) : List (BitVec 8) := viB m.err ++ lsB m.ls ++ buB m.bu ++ evsB m.mail m.mail.length
theorem rpAt_fix {m : MRp} {X : List Value} {w : World} (hm : m.Ok) (h : Fro 0 (rpAt m X) w) : ∃ c1 c2 a c, X = rpR (.int .u16 m.err) c1 c2 (.slice a m.mail.length c) ∧ c1.length = 99 ∧ c2.length = 164 ∧ One c1 ∧ One c2 ∧ Fro 0 (lsAt m.ls c1) w ∧ Fro 0 (buAt m.bu c2) w ∧ Fro 0 (SlR 72 evAt m.mail a c) w := by
  obtain ⟨c1, c2, a, c, hq, q1, q2, -⟩ := h.now
  have l1 := lsAt_len hm.ls q1
  have l2 := buAt_len hm.bu q2
  have key : ∀ V, Ext 0 [] w V → lsAt m.ls c1 V ∧ buAt m.bu c2 V ∧ SlR 72 evAt m.mail a c V := fun V hV => by
    obtain ⟨d1, d2, a2, c3, h1, h2, h3, h4⟩ := h V hV
    have m1 := lsAt_len hm.ls h2
    have m2 := buAt_len hm.bu h3
    rw [hq] at h1
    have e1 : (_ : List Value) = (_ : List Value) := congrArg (fun l : List Value => (l.drop 1).take 99) h1
    have e2 : (_ : List Value) = (_ : List Value) := congrArg (fun l : List Value => (l.drop 100).take 164) h1
    have e3 : (_ : List Value)[264]? = (_ : List Value)[264]? := congrArg (fun l : List Value => l[264]?) h1
    rw [rpR_List l1, rpR_List m1] at e1
    rw [rpR_Bundle l1 l2, rpR_Bundle m1 m2] at e2
    rw [rpR_Mail l1 l2, rpR_Mail m1 m2] at e3
    simp only [Option.some.injEq, Value.slice.injEq] at e3
    obtain ⟨rfl, _, rfl⟩ := e3
    subst e1
    subst e2
    exact ⟨h2, h3, h4⟩
  exact ⟨c1, c2, a, c, hq, l1, l2, lsAt_one q1, buAt_one hm.bu q2, fun V hV => (key V hV).1, fun V hV => (key V hV).2.1, fun V hV => (key V hV).2.2⟩
theorem run_cv16i {w : World} {ρ : Operand → Value} {o : Oper} {x : Operand} {n : Int} (ho : o.op = .convert 49 3 x) (hx : ρ x = .int .u16 n) (h0 : 0 ≤ n) (h1 : n < 65536) : (execOp ρ o).run Tryz.prog w = .ok (.value (.int .i64 n)) w := by
  rw [run_cv ho Tryz.underlying49 Tryz.underlying3 hx, i64_fit (by omega) (by omega)]
end Go.Proofs.YtcgbgmbnagmohaaGreat
namespace Go.Proofs.YtcgbgmbnagmohaaGreat
open Go.RowKit
set_option maxRecDepth 20000
attribute [local irreducible] wpList
def txB (l : List (BitVec 8)) : List (BitVec 8) := viB (l.length : Int) ++ l
structure MRq.Ok (m : MRq) : Prop where
  kind0 : 0 ≤ m.kind
  kind1 : m.kind < 256
  pin : m.pin.length ≤ 100000
  next : m.next.length ≤ 100000
  name : m.name.length ≤ 100000
  ls : m.ls.Ok
  token : m.token.length = 32
  signed : m.signed.key.length = 32
  sig : m.sig.length = 64
  ones : ∀ p ∈ m.ones, p.key.length = 32
  many : m.ones.length ≤ 60000
  items : ∀ p ∈ m.items, p.2.Ok
  much : m.items.length ≤ 60000
def rqH (m : MRq) : List (BitVec 8) := viB m.kind ++ viB m.acc ++ viB m.dev ++ txB m.pin ++ txB m.next ++ txB m.name ++ lsB m.ls ++ m.token
def rqF (m : MRq) (i : Nat) : List (BitVec 8) := rqH m ++ pkB m.signed ++ m.sig ++ psB m.ones m.ones.length ++ viB m.ver ++ viB (m.items.length : Int) ++ (m.items.take i).flatMap fun p => viB p.1 ++ evB p.2
def rqB (m : MRq) : List (BitVec 8) := rqF m m.items.length
theorem run_cv8iR {w : World} {ρ : Operand → Value} {o : Oper} {x : Operand} {n : Int} (ho : o.op = .convert 5 3 x) (hx : ρ x = .int .u8 n) (h0 : 0 ≤ n) (h1 : n < 256) : (execOp ρ o).run Tryz.prog w = .ok (.value (.int .i64 n)) w := by
  rw [run_cv ho Tryz.underlying5 Tryz.underlying3 hx, i64_fit (by omega) (by omega)]
theorem rqAt_fix {m : MRq} {X : List Value} {w : World} (hm : m.Ok) (h : Fro 0 (rqAt m X) w) : ∃ c1 a c a2 c2, X = rqR (.int .u8 m.kind) (.int .i64 m.acc) (.int .i64 m.dev) (.string (strOf m.pin)) (.string (strOf m.next)) (.string (strOf m.name)) c1 (m.token.map b8) (pkC m.signed) (m.sig.map b8) (.slice a m.ones.length c) (.int .i64 m.ver) (.slice a2 m.items.length c2) ∧ c1.length = 99 ∧ One c1 ∧ Fro 0 (lsAt m.ls c1) w ∧ Fro 0 (SlR 33 pkAt m.ones a c) w ∧ Fro 0 (SlR 73 itAt m.items a2 c2) w := by
  obtain ⟨c1, a, c, a2, c2, hq, q1, -⟩ := h.now
  have l1 := lsAt_len hm.ls q1
  have t1 : (m.token.map b8).length = 32 := by rw [List.length_map, hm.token]
  have t2 := pkC_len' hm.signed
  have t3 : (m.sig.map b8).length = 64 := by rw [List.length_map, hm.sig]
  have key : ∀ V, Ext 0 [] w V → lsAt m.ls c1 V ∧ SlR 33 pkAt m.ones a c V ∧ SlR 73 itAt m.items a2 c2 V := fun V hV => by
    obtain ⟨d1, d2, d3, d4, d5, h1, h2, h3, h4⟩ := h V hV
    have m1 := lsAt_len hm.ls h2
    rw [hq] at h1
    have e1 : (_ : List Value) = (_ : List Value) := congrArg (fun l : List Value => (l.drop 6).take 99) h1
    have e2 : (_ : List Value)[234]? = (_ : List Value)[234]? := congrArg (fun l : List Value => l[234]?) h1
    have e3 : (_ : List Value)[236]? = (_ : List Value)[236]? := congrArg (fun l : List Value => l[236]?) h1
    rw [rqR_List l1, rqR_List m1] at e1
    rw [rqR_Ones l1 t1 t2 t3, rqR_Ones m1 t1 t2 t3] at e2
    rw [rqR_Items l1 t1 t2 t3, rqR_Items m1 t1 t2 t3] at e3
    simp only [Option.some.injEq, Value.slice.injEq] at e2 e3
    obtain ⟨rfl, _, rfl⟩ := e2
    obtain ⟨rfl, _, rfl⟩ := e3
    subst e1
    exact ⟨h2, h3, h4⟩
  exact ⟨c1, a, c, a2, c2, hq, l1, lsAt_one q1, fun V hV => (key V hV).1, fun V hV => (key V hV).2.1, fun V hV => (key V hV).2.2⟩
end Go.Proofs.YtcgbgmbnagmohaaGreat
