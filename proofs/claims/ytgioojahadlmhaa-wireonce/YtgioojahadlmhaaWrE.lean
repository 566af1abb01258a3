import Derived.Test.YtgioojahadlmhaaWr5
import Derived.Test.YtgioojahadlmhaaRd5
namespace Go.Proofs.Ytgioojahadlmhaa
open Go.RowKit
set_option maxRecDepth 20000
structure MEv where
  fr : Int
  dev : Int
  first : Bool
  eph : List (BitVec 8)
  signed : Int
  one : Int
  head : MHd
  body : List (BitVec 8)
structure MEv.Ok (e : MEv) : Prop where
  eph : e.eph.length = 32
  head : e.head.r.length = 32
  body : e.body.length ≤ 100000
def evC (e : MEv) (v : Value) : List Value := .int .i64 e.fr :: .int .i64 e.dev :: .bool e.first :: (e.eph.map b8 ++ (.int .i64 e.signed :: .int .i64 e.one :: (hdC e.head ++ [v])))
def oneN (o : Int) : Int := if 0 ≤ o then min o 1099511627775 + 1 else 0
def evB (e : MEv) : List (BitVec 8) := viB e.fr ++ viB e.dev ++ trB e.first ++ e.eph ++ viB e.signed ++ viB (oneN e.one) ++ hdB e.head ++ (viB (e.body.length : Int) ++ e.body)
theorem evC_len {e : MEv} (h : e.Ok) (v : Value) : (evC e v).length = 72 := by
  unfold evC
  simp only [List.length_cons, List.length_append, List.length_map, h.eph, hdC_len h.head, List.length_nil]
theorem hdB_len {h : MHd} (e : h.r.length = 32) : (hdB h).length ≤ 44 := by
  have h1 := qbq h.prev
  have h2 := qbq h.n
  unfold hdB; rw [List.length_append, List.length_append]; omega
theorem trB_len (b : Bool) : (trB b).length = 1 := rfl
theorem evB_len {e : MEv} (h : e.Ok) : (evB e).length ≤ 200 + e.body.length := by
  have h1 := qbq e.fr
  have h2 := qbq e.dev
  have h3 := qbq e.signed
  have h4 := qbq (oneN e.one)
  have h5 := qbq (e.body.length : Int)
  have h6 := hdB_len h.head
  have h7 := h.eph
  unfold evB
  simp only [List.length_append, trB_len]
  omega
end Go.Proofs.Ytgioojahadlmhaa
namespace Go.Proofs.Ytgioojahadlmhaa
open Go.RowKit
set_option maxRecDepth 20000
attribute [local irreducible] wpList
def trM (b : List (BitVec 8)) (s : Nat × Int) : (Nat × Int) × Bool :=
  if tkE b.length s.1 s.2 1 = 0 then (if 1 < (b.getD s.1 0).toNat then ((s.1 + 1, 11), false) else ((s.1 + 1, 0), decide ((b.getD s.1 0).toNat = 1)))
  else ((tkI b.length s.1 s.2 1, tkE b.length s.1 s.2 1), false)
def byM (b : List (BitVec 8)) (s : Nat × Int) : (Nat × Int) × List (BitVec 8) :=
  let r := nM b 60000 s
  ((tkI b.length r.1.1 r.1.2 r.2.toNat, tkE b.length r.1.1 r.1.2 r.2.toNat), if tkE b.length r.1.1 r.1.2 r.2.toNat = 0 then (b.drop r.1.1).take r.2.toNat else [])
theorem fro_sl {B : Nat} {v : Value} {l : List (BitVec 8)} {u : World} (h : u.ownsRow B 5 1 v l.length (l.map b8)) : Fro B (Sl v l) u := fun _ hV =>
  Sl.own (base := B) (ownsRow_at h fun k hk => hV.block k (qa2 h hk).1 (qa2 h hk).2 (by simp))
end Go.Proofs.Ytgioojahadlmhaa
namespace Go.Proofs.Ytgioojahadlmhaa
open Go.RowKit
set_option maxRecDepth 20000
attribute [local irreducible] wpList
theorem pkC_en {p : MPk} : pkC p = enR (.int .i64 p.id) (p.key.map b8) := by unfold pkC enR; rfl
theorem evC_row {e : MEv} {v : Value} : evC e v = evR (.int .i64 e.fr) (.int .i64 e.dev) (.bool e.first) (e.eph.map b8) (.int .i64 e.signed) (.int .i64 e.one) (hdC e.head) v := by unfold evC evR; rfl
theorem hdC_one {h : MHd} : One (hdC h) := by rw [hdC_row]; exact hdR_one (One.b8 _) rfl rfl
structure MLs where
  acc : Int
  ver : Int
  ident : List (BitVec 8)
  devs : List MPk
  sig : List (BitVec 8)
structure MBu where
  acc : Int
  dev : Int
  ident : List (BitVec 8)
  key : List (BitVec 8)
  signed : MPk
  sig : List (BitVec 8)
  ones : List MPk
structure MSlot where
  dev : Int
  signed : MPk
  sig : List (BitVec 8)
  ones : List MPk
  last : Int
  mail : List MEv
def evAt (m : MEv) (cs : List Value) (V : World) : Prop := ∃ a c, cs = evC m (.slice a m.body.length c) ∧ Sl (.slice a m.body.length c) m.body V
def itAt (m : Int × MEv) (cs : List Value) (V : World) : Prop := ∃ cs', cs = itR (.int .i64 m.1) cs' ∧ evAt m.2 cs' V
def lsAt (m : MLs) (cs : List Value) (V : World) : Prop := ∃ a c, cs = lsR (.int .i64 m.acc) (.int .i64 m.ver) (m.ident.map b8) (.slice a m.devs.length c) (m.sig.map b8) ∧ SlR 33 pkAt m.devs a c V
def LR {α : Type} (At : α → List Value → World → Prop) (l : List α) (css : List (List Value)) (V : World) : Prop := css.length = l.length ∧ ∀ (i : Nat) (m : α) (cs : List Value), l[i]? = some m → css[i]? = some cs → At m cs V
theorem LR.nil {α : Type} {At : α → List Value → World → Prop} (V : World) : LR At ([] : List α) [] V := ⟨rfl, fun _ _ _ h => by simp at h⟩
theorem LR.snoc {α : Type} {At : α → List Value → World → Prop} {l : List α} {css : List (List Value)} {y : α} {X : List Value} {V : World} (h : LR At l css V) (hy : At y X V) : LR At (l ++ [y]) (css ++ [X]) V := by
  refine ⟨by rw [List.length_append, List.length_append, h.1]; rfl, fun i m cs h1 h2 => ?_⟩
  rcases Nat.lt_or_ge i l.length with hi | hi
  · rw [List.getElem?_append_left hi] at h1
    rw [List.getElem?_append_left (by rw [h.1]; exact hi)] at h2
    exact h.2 i m cs h1 h2
  · rw [List.getElem?_append_right hi] at h1
    rw [List.getElem?_append_right (by rw [h.1]; exact hi), h.1] at h2
    obtain ⟨h3, rfl⟩ : i - l.length = 0 ∧ m = y := by
      cases h4 : i - l.length with
      | zero => rw [h4] at h1; simpa using h1.symm
      | succ k => rw [h4] at h1; simp at h1
    rw [h3] at h2
    obtain rfl : cs = X := by simpa using h2.symm
    exact hy
def enM (b : List (BitVec 8)) (s : Nat × Int) : (Nat × Int) × List (MPk) := rowsM (pkM b) (nM b 60000 s).2.toNat (nM b 60000 s).1
end Go.Proofs.Ytgioojahadlmhaa
namespace Go.Proofs.Ytgioojahadlmhaa
open Go.RowKit
set_option maxRecDepth 20000
attribute [local irreducible] wpList
def lsM (b : List (BitVec 8)) (s : Nat × Int) : (Nat × Int) × MLs :=
  let r1 := nM b 1099511627776 s
  let r2 := nM b 1099511627776 r1.1
  let r3 := kM 32 b r2.1
  let r4 := enM b r3.1
  let r5 := kM 64 b r4.1
  (r5.1, (⟨r1.2, r2.2, r3.2, r4.2, r5.2⟩ : MLs))
def evM (b : List (BitVec 8)) (s : Nat × Int) : (Nat × Int) × MEv :=
  let r1 := nM b 1099511627776 s
  let r2 := nM b 1099511627776 r1.1
  let r3 := trM b r2.1
  let r4 := kM 32 b r3.1
  let r5 := nM b 1099511627776 r4.1
  let r6 := nM b 1099511627776 r5.1
  let r7 := hdM b r6.1
  let r8 := byM b r7.1
  (r8.1, (⟨r1.2, r2.2, r3.2, r4.2, r5.2, r6.2 - 1, r7.2, r8.2⟩ : MEv))
end Go.Proofs.Ytgioojahadlmhaa
namespace Go.Proofs.Ytgioojahadlmhaa
open Go.RowKit
set_option maxRecDepth 20000
attribute [local irreducible] wpList
def itM (b : List (BitVec 8)) (s : Nat × Int) : (Nat × Int) × (Int × MEv) :=
  let r1 := nM b 1099511627776 s
  let r2 := evM b r1.1
  (r2.1, (r1.2, r2.2))
def itsM (b : List (BitVec 8)) (s : Nat × Int) : (Nat × Int) × List (Int × MEv) := rowsM (itM b) (nM b 60000 s).2.toNat (nM b 60000 s).1
end Go.Proofs.Ytgioojahadlmhaa
namespace Go.Proofs.Ytgioojahadlmhaa
open Go.RowKit
set_option maxRecDepth 20000
attribute [local irreducible] wpList
def qbr (b : List (BitVec 8)) : List (BitVec 8) × Int := if 60000 < b.length then ([], 3) else (b, 0)
def endM (m i : Nat) (e : Int) : Int := if e = 0 ∧ i < m then 11 else e
theorem sl_nilR (w : World) : Sl (.slice none 0 0) [] w := ⟨none, 0, rfl, Nat.le_refl _, fun h => absurd rfl h⟩
theorem slR_nil {α : Type} (z : Nat) (At : α → List Value → World → Prop) (V : World) : SlR z At ([] : List α) none 0 V := ⟨Nat.le_refl _, [], rfl, (fun _ h => by cases h), (fun _ _ _ h => by simp at h), fun h => absurd rfl h⟩
def zLs : MLs := ⟨0, 0, List.replicate 32 0, [], List.replicate 64 0⟩
def zPk : MPk := ⟨0, List.replicate 32 0⟩
structure MRp where
  err : Int
  ls : MLs
  bu : MBu
  mail : List MEv
theorem lsAt_zero (V : World) : lsAt zLs (lsR (.int .i64 0) (.int .i64 0) (z8 32) (.slice none 0 0) (z8 64)) V := ⟨none, 0, rfl, slR_nil _ _ _⟩
def rdLsA (b : List (BitVec 8)) (s : Nat × Int) : (Nat × Int) × MLs :=
  let r1 := lsM b s
  (r1.1, r1.2)
def rdLs (b : List (BitVec 8)) : MLs × Int :=
  let r := rdLsA (qbr b).1 (0, (qbr b).2)
  if endM (qbr b).1.length r.1.1 r.1.2 = 0 then (r.2, 0) else (zLs, endM (qbr b).1.length r.1.1 r.1.2)
end Go.Proofs.Ytgioojahadlmhaa
namespace Go.Proofs.Ytgioojahadlmhaa
open Go.RowKit
set_option maxRecDepth 20000
attribute [local irreducible] wpList
structure MRq where
  kind : Int
  acc : Int
  dev : Int
  pin : List (BitVec 8)
  next : List (BitVec 8)
  name : List (BitVec 8)
  ls : MLs
  token : List (BitVec 8)
  signed : MPk
  sig : List (BitVec 8)
  ones : List MPk
  ver : Int
  items : List (Int × MEv)
structure MAc where
  id : Int
  pin : List (BitVec 8)
  wrong : Int
  till : Int
  ls : MLs
  slots : List MSlot
  tokens : List (List (BitVec 8))
def rqAt (m : MRq) (cs : List Value) (V : World) : Prop := ∃ c1 a c a2 c2, cs = rqR (.int .u8 m.kind) (.int .i64 m.acc) (.int .i64 m.dev) (.string (strOf m.pin)) (.string (strOf m.next)) (.string (strOf m.name)) c1 (m.token.map b8) (pkC m.signed) (m.sig.map b8) (.slice a m.ones.length c) (.int .i64 m.ver) (.slice a2 m.items.length c2) ∧ lsAt m.ls c1 V ∧ SlR 33 pkAt m.ones a c V ∧ SlR 73 itAt m.items a2 c2 V
def zRq : MRq := ⟨0, 0, 0, [], [], [], zLs, List.replicate 32 0, zPk, List.replicate 64 0, [], 0, []⟩
theorem run_cvu8R {w : World} {ρ : Operand → Value} {o : Oper} {x : Operand} {n : Int} (ho : o.op = .convert 3 5 x) (hx : ρ x = .int .i64 n) (h0 : 0 ≤ n) (h1 : n ≤ 255) : (execOp ρ o).run Try.prog w = .ok (.value (.int .u8 n)) w := by
  rw [run_cv ho Try.underlying3 Try.underlying5 hx]
  have e : IntKind.u8.wrap n = n := by simp only [IntKind.wrap, IntKind.bits, IntKind.signed]; simp; omega
  rw [e]
def rdRqA (b : List (BitVec 8)) (s : Nat × Int) : (Nat × Int) × MRq :=
  let r1 := nM b 255 s
  let r2 := nM b 1099511627776 r1.1
  let r3 := nM b 1099511627776 r2.1
  let r4 := byM b r3.1
  let r5 := byM b r4.1
  let r6 := byM b r5.1
  let r7 := lsM b r6.1
  let r8 := kM 32 b r7.1
  let r9 := pkM b r8.1
  let r10 := kM 64 b r9.1
  let r11 := psM b r10.1
  let r12 := nM b 1099511627776 r11.1
  let r13 := itsM b r12.1
  (r13.1, (⟨r1.2, r2.2, r3.2, r4.2, r5.2, r6.2, r7.2, r8.2, r9.2, r10.2, r11.2, r12.2, r13.2⟩ : MRq))
def rdRq (b : List (BitVec 8)) : MRq × Int :=
  let r := rdRqA (qbr b).1 (0, (qbr b).2)
  if endM (qbr b).1.length r.1.1 r.1.2 = 0 then (r.2, 0) else (zRq, endM (qbr b).1.length r.1.1 r.1.2)
end Go.Proofs.Ytgioojahadlmhaa
namespace Go.Proofs.Ytgioojahadlmhaa
open Go.RowKit
set_option maxRecDepth 20000
attribute [local irreducible] wpList
structure MBu.Ok (m : MBu) : Prop where
  ident : m.ident.length = 32
  key : m.key.length = 32
  signed : m.signed.key.length = 32
  sig : m.sig.length = 64
  ones : ∀ p ∈ m.ones, p.key.length = 32
  many : m.ones.length ≤ 60000
end Go.Proofs.Ytgioojahadlmhaa
namespace Go.Proofs.Ytgioojahadlmhaa
open Go.RowKit
set_option maxRecDepth 20000
attribute [local irreducible] wpList
theorem slR_get {α : Type} {z : Nat} {Rr : α → List Value → World → Prop} {l : List α} {a : Option Addr} {c : Nat} {w : World} (h : Fro 0 (SlR z Rr l a c) w) {i : Nat} (hi : i < l.length) : ∃ g f cs, a = some ⟨g, f, none⟩ ∧ g < w.heap.size ∧ cs.length = z ∧ w.rangeAt g (f + i * z) cs ∧ Fro 0 (Rr l[i] cs) w := by
  have one : ∀ V, SlR z Rr l a c V → ∃ g f cs, a = some ⟨g, f, none⟩ ∧ g < V.heap.size ∧ cs.length = z ∧ V.rangeAt g (f + i * z) cs ∧ Rr l[i] cs V := fun V hV => by
    obtain ⟨h1, css, h2, h3, h4, h5⟩ := hV
    obtain ⟨g, f, h6, h7, h8⟩ := h5 (fun hn => by rw [hn] at hi; cases hi)
    have hic : i < css.length := by rw [h2]; exact hi
    refine ⟨g, f, css[i], h6, h7, h3 _ (List.getElem_mem hic), ?_, h4 i _ _ (List.getElem?_eq_getElem hi) (List.getElem?_eq_getElem hic)⟩
    have e1 : css = css.take i ++ (css[i] :: css.drop (i + 1)) := by rw [← List.drop_eq_getElem_cons hic, List.take_append_drop]
    have hl : ((css.take i).flatten).length = i * z := by
      rw [flat_len (fun x hx => h3 x (List.mem_of_mem_take hx)), List.length_take, Nat.min_eq_left (by omega)]
    have e2 : css.flatten = (css.take i).flatten ++ (css[i] ++ (css.drop (i + 1)).flatten) := by
      conv => lhs; rw [e1]
      rw [List.flatten_append, List.flatten_cons]
    rw [e2] at h8
    have h9 := rangeAt_drop (k := (css.take i).flatten.length) h8
    rw [List.drop_left' rfl, hl] at h9
    have h10 := qb9 (k := css[i].length) h9
    rwa [List.take_left' rfl] at h10
  obtain ⟨g, f, cs, h1, h2, h3, h4, _⟩ := one w h.now
  refine ⟨g, f, cs, h1, h2, h3, h4, fun V hV => ?_⟩
  obtain ⟨g2, f2, cs2, k1, k2, k3, k4, k5⟩ := one V (h V hV)
  rw [h1] at k1
  simp only [Option.some.injEq, Addr.mk.injEq] at k1
  obtain ⟨rfl, rfl, _⟩ := k1
  have e : cs = cs2 := by
    apply List.ext_getElem?
    intro j
    rcases Nat.lt_or_ge j z with hj | hj
    · have q1 := h4 j _ (List.getElem?_eq_getElem (by omega))
      have q2 := k4 j _ (List.getElem?_eq_getElem (by omega))
      rw [World.cell?_of_block (a := ⟨g, f + i * z + j, none⟩) (hV.block g (Nat.zero_le _) h2 (by simp)), q1] at q2
      rw [List.getElem?_eq_getElem (by omega), List.getElem?_eq_getElem (by omega)]
      exact q2
    · rw [List.getElem?_eq_none (by omega), List.getElem?_eq_none (by omega)]
  rw [e]; exact k5
def evsB (ms : List MEv) (i : Nat) : List (BitVec 8) := viB (ms.length : Int) ++ (ms.take i).flatMap evB
end Go.Proofs.Ytgioojahadlmhaa
namespace Go.Proofs.Ytgioojahadlmhaa
open Go.RowKit
set_option maxRecDepth 20000
attribute [local irreducible] wpList
def Since (w u : World) : Prop := Below w.heap.size w u
structure MLs.Ok (m : MLs) : Prop where
  ident : m.ident.length = 32
  sig : m.sig.length = 64
  devs : ∀ p ∈ m.devs, p.key.length = 32
  many : m.devs.length ≤ 60000
def lsF (m : MLs) (i : Nat) : List (BitVec 8) := viB m.acc ++ viB m.ver ++ m.ident ++ viB (m.devs.length : Int) ++ (m.devs.take i).flatMap pkB
def lsB (m : MLs) : List (BitVec 8) := lsF m m.devs.length ++ m.sig
theorem lsF_succ {m : MLs} {i : Nat} (h : i < m.devs.length) : lsF m (i + 1) = lsF m i ++ pkB m.devs[i] := by
  unfold lsF
  rw [List.take_succ_eq_append_getElem h, List.flatMap_append]
  simp
theorem lsF_len {m : MLs} (h : m.Ok) (i : Nat) (hi : i ≤ m.devs.length) : (lsF m i).length ≤ 50 + i * 38 := by
  induction i with
  | zero =>
    have h1 := qbq m.acc
    have h2 := qbq m.ver
    have h3 := qbq (m.devs.length : Int)
    have h4 := h.ident
    simp only [lsF, List.take_zero, List.flatMap_nil, List.length_append, List.length_nil]
    omega
  | succ i ih =>
    rw [lsF_succ (by omega), List.length_append]
    have := pkB_len (h.devs _ (List.getElem_mem (show i < m.devs.length by omega)))
    have := ih (by omega)
    omega
theorem lsAt_fix {m : MLs} {X : List Value} {w : World} (hm : m.Ok) (h : Fro 0 (lsAt m X) w) : ∃ a c, X = lsR (.int .i64 m.acc) (.int .i64 m.ver) (m.ident.map b8) (.slice a m.devs.length c) (m.sig.map b8) ∧ Fro 0 (SlR 33 pkAt m.devs a c) w := by
  obtain ⟨a0, c0, hq, -⟩ := h.now
  refine ⟨a0, c0, hq, fun V hV => ?_⟩
  obtain ⟨a1, c1, h1, h2⟩ := h V hV
  rw [hq] at h1
  have h3 : (_ : List Value)[34]? = (_ : List Value)[34]? := congrArg (fun l : List Value => l[34]?) h1
  rw [lsR_Devices (by rw [List.length_map, hm.ident]), lsR_Devices (by rw [List.length_map, hm.ident])] at h3
  simp only [Option.some.injEq, Value.slice.injEq] at h3
  obtain ⟨rfl, _, rfl⟩ := h3
  exact h2
end Go.Proofs.Ytgioojahadlmhaa
namespace Go.Proofs.Ytgioojahadlmhaa
open Go.RowKit
set_option maxRecDepth 20000
attribute [local irreducible] wpList
theorem lsB_len {m : MLs} (h : m.Ok) : (lsB m).length ≤ 2280200 := by
  have h1 := lsF_len h m.devs.length (Nat.le_refl _)
  have h2 := h.many
  have h3 := h.sig
  unfold lsB
  rw [List.length_append]; omega
theorem lsAt_len {m : MLs} {c : List Value} {V : World} (hm : m.Ok) (h : lsAt m c V) : c.length = 99 := by
  obtain ⟨_, _, rfl, -⟩ := h
  exact qas (by rw [List.length_map, hm.ident]) (by rw [List.length_map, hm.sig])
theorem lsAt_one {m : MLs} {c : List Value} {V : World} (h : lsAt m c V) : One c := by
  obtain ⟨_, _, rfl, -⟩ := h
  exact qcm rfl rfl (One.b8 _) rfl (One.b8 _)
structure MRp.Ok (m : MRp) : Prop where
  err0 : 0 ≤ m.err
  err1 : m.err < 65536
  ls : m.ls.Ok
  bu : m.bu.Ok
  mail : ∀ p ∈ m.mail, p.Ok
  many : m.mail.length ≤ 60000
  size : (evsB m.mail m.mail.length).length ≤ 8000000
end Go.Proofs.Ytgioojahadlmhaa
namespace Go.Proofs.Ytgioojahadlmhaa
open Go.RowKit
set_option maxRecDepth 20000
attribute [local irreducible] wpList
def txB (l : List (BitVec 8)) : List (BitVec 8) := viB (l.length : Int) ++ l
structure MRq.Ok (m : MRq) : Prop where
  kind0 : 0 ≤ m.kind
  kind1 : m.kind < 256
  pin : m.pin.length ≤ 100000
  next : m.next.length ≤ 100000
  name : m.name.length ≤ 100000
  ls : m.ls.Ok
  token : m.token.length = 32
  signed : m.signed.key.length = 32
  sig : m.sig.length = 64
  ones : ∀ p ∈ m.ones, p.key.length = 32
  many : m.ones.length ≤ 60000
  items : ∀ p ∈ m.items, p.2.Ok
  much : m.items.length ≤ 60000
def rqH (m : MRq) : List (BitVec 8) := viB m.kind ++ viB m.acc ++ viB m.dev ++ txB m.pin ++ txB m.next ++ txB m.name ++ lsB m.ls ++ m.token
def rqF (m : MRq) (i : Nat) : List (BitVec 8) := rqH m ++ pkB m.signed ++ m.sig ++ psB m.ones m.ones.length ++ viB m.ver ++ viB (m.items.length : Int) ++ (m.items.take i).flatMap fun p => viB p.1 ++ evB p.2
def rqB (m : MRq) : List (BitVec 8) := rqF m m.items.length
theorem run_cv8iR {w : World} {ρ : Operand → Value} {o : Oper} {x : Operand} {n : Int} (ho : o.op = .convert 5 3 x) (hx : ρ x = .int .u8 n) (h0 : 0 ≤ n) (h1 : n < 256) : (execOp ρ o).run Try.prog w = .ok (.value (.int .i64 n)) w := by
  rw [run_cv ho Try.underlying5 Try.underlying3 hx, i64_fit (by omega) (by omega)]
theorem rqAt_fix {m : MRq} {X : List Value} {w : World} (hm : m.Ok) (h : Fro 0 (rqAt m X) w) : ∃ c1 a c a2 c2, X = rqR (.int .u8 m.kind) (.int .i64 m.acc) (.int .i64 m.dev) (.string (strOf m.pin)) (.string (strOf m.next)) (.string (strOf m.name)) c1 (m.token.map b8) (pkC m.signed) (m.sig.map b8) (.slice a m.ones.length c) (.int .i64 m.ver) (.slice a2 m.items.length c2) ∧ c1.length = 99 ∧ One c1 ∧ Fro 0 (lsAt m.ls c1) w ∧ Fro 0 (SlR 33 pkAt m.ones a c) w ∧ Fro 0 (SlR 73 itAt m.items a2 c2) w := by
  obtain ⟨c1, a, c, a2, c2, hq, q1, -⟩ := h.now
  have l1 := lsAt_len hm.ls q1
  have t1 : (m.token.map b8).length = 32 := by rw [List.length_map, hm.token]
  have t2 := pkC_len' hm.signed
  have t3 : (m.sig.map b8).length = 64 := by rw [List.length_map, hm.sig]
  have key : ∀ V, Ext 0 [] w V → lsAt m.ls c1 V ∧ SlR 33 pkAt m.ones a c V ∧ SlR 73 itAt m.items a2 c2 V := fun V hV => by
    obtain ⟨d1, d2, d3, d4, d5, h1, h2, h3, h4⟩ := h V hV
    have m1 := lsAt_len hm.ls h2
    rw [hq] at h1
    have e1 : (_ : List Value) = (_ : List Value) := congrArg (fun l : List Value => (l.drop 6).take 99) h1
    have e2 : (_ : List Value)[234]? = (_ : List Value)[234]? := congrArg (fun l : List Value => l[234]?) h1
    have e3 : (_ : List Value)[236]? = (_ : List Value)[236]? := congrArg (fun l : List Value => l[236]?) h1
    rw [rqR_List l1, rqR_List m1] at e1
    rw [rqR_Ones l1 t1 t2 t3, rqR_Ones m1 t1 t2 t3] at e2
    rw [rqR_Items l1 t1 t2 t3, rqR_Items m1 t1 t2 t3] at e3
    simp only [Option.some.injEq, Value.slice.injEq] at e2 e3
    obtain ⟨rfl, _, rfl⟩ := e2
    obtain ⟨rfl, _, rfl⟩ := e3
    subst e1
    exact ⟨h2, h3, h4⟩
  exact ⟨c1, a, c, a2, c2, hq, l1, lsAt_one q1, fun V hV => (key V hV).1, fun V hV => (key V hV).2.1, fun V hV => (key V hV).2.2⟩
end Go.Proofs.Ytgioojahadlmhaa
