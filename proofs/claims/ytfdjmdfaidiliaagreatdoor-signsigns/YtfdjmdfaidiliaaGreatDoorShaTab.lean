import Derived.Test.YtfdjmdfaidiliaaGreatDoorSown2
import Derived.Test.YtfdjmdfaidiliaaGreatDoorMem
namespace Go.Proofs.YtfdjmdfaidiliaaGreatDoor
open Go.RowKit
set_option maxRecDepth 20000
theorem qad {w : World} {v : Value} {r : Result Next} (h : r = .ok (.value v) w) : calmUpon Tryz.prog w v r := by rw [h]; exact ⟨rfl, rfl⟩
theorem qak {w : World} {v : Value} {r : Result Next} {f : FuncId} {args : Array Value} (h : r = .ok (.enter f args) w) (hc : Calls Tryz.prog f args w fun e w' => e = .returned v ∧ Below w.heap.size w w') : calmUpon Tryz.prog w v r := by rw [h]; exact ⟨rfl, hc⟩
theorem calm_still {w : World} {v : Value} {r : Result Next} {f : FuncId} {args : Array Value} (h : r = .ok (.enter f args) w) (hc : Calls Tryz.prog f args w fun e w' => e = .returned v ∧ w' = w) : calmUpon Tryz.prog w v r :=
  qak h (hc.mono fun e w' ⟨h1, h2⟩ => ⟨h1, by rw [h2]; exact Below.refl _ _⟩)
theorem qav {P : Program} {w : World} {K : Act → Prop} {l : List Oper} {a : Act} (h : K a) : wpCalm P w K 0 l a := h
theorem qa5 {α : Type} (f : α → Value) {l : List α} {i : Nat} (d : α) (h : i < l.length) : (l.map f)[i]? = some (f (l.getD i d)) := by
  rw [List.getElem?_map, List.getElem?_eq_getElem h]; simp [h]
theorem qbw {α : Type} (f : α → Value) (l : List α) (i : Nat) (v : α) : (l.map f).set i (f v) = (l.set i v).map f := by rw [List.map_set]
theorem qa8 {w u : World} {b o : Nat} {vs : List Value} (h : w.rangeAt b o vs) (hl : b < w.heap.size) (hb : Below w.heap.size w u) : u.rangeAt b o vs := fun j v hv => by
  rw [hb.cell (p := ⟨b, o + j, none⟩) hl]; exact h j v hv
section
variable {w : World} {ρ : Operand → Value} {o : Oper} {t : TypeId} {x y : Operand}
theorem run_slh {e : TypeId} {b f n c h : Nat} {k : IntKind} (ho : o.op = .slice t x none (some y) none) (ht : Tryz.prog.underlying t = some (.slice e)) (hs : (Tryz.prog.info? e).map (·.size) = some 1) (hx : ρ x = .slice (some ⟨b, f, none⟩) n c) (hy : ρ y = .int k (h : Int)) (hc : h ≤ c) : (execOp ρ o).run Tryz.prog w = .ok (.value (.slice (some ⟨b, f, none⟩) h c)) w := by
  have el : Tryz.prog.elem t = e := by unfold Program.elem; rw [ht]
  have ht' : Tryz.prog.underlying t = some (.slice (Tryz.prog.elem t)) := by rw [el]; exact ht
  have h1 := run_slice_h (P := Tryz.prog) (w := w) t (some ⟨b, f, none⟩) n c ht' k (h : Int) (by omega) (by omega)
  obtain ⟨inf, hi, h2⟩ := Option.map_eq_some_iff.1 hs
  have hz : (sizeOf e).run Tryz.prog w = .ok 1 w := by simp [sizeOf, typeInfo, go_sem, hi, h2]
  rw [el, hz] at h1
  have h3 := run_sliceAt_slice (P := Tryz.prog) (w := w) t (.slice (some ⟨b, f, none⟩) n c) none (some (.int k (h : Int))) none ht'
  unfold execOp
  simp only [ho, hx, hy, Option.map_some, Option.map_none, Sem.run_bind, h3, h1]
  simp [go_sem]
end
end Go.Proofs.YtfdjmdfaidiliaaGreatDoor
namespace Go.Proofs.YtfdjmdfaidiliaaGreatDoor
open Go.RowKit
set_option maxRecDepth 20000
def rtab : List (BitVec 64) := [0x428a2f98d728ae22#64, 0x7137449123ef65cd#64, 0xb5c0fbcfec4d3b2f#64, 0xe9b5dba58189dbbc#64, 0x3956c25bf348b538#64, 0x59f111f1b605d019#64, 0x923f82a4af194f9b#64, 0xab1c5ed5da6d8118#64, 0xd807aa98a3030242#64, 0x12835b0145706fbe#64, 0x243185be4ee4b28c#64, 0x550c7dc3d5ffb4e2#64, 0x72be5d74f27b896f#64, 0x80deb1fe3b1696b1#64, 0x9bdc06a725c71235#64, 0xc19bf174cf692694#64, 0xe49b69c19ef14ad2#64, 0xefbe4786384f25e3#64, 0x0fc19dc68b8cd5b5#64, 0x240ca1cc77ac9c65#64, 0x2de92c6f592b0275#64, 0x4a7484aa6ea6e483#64, 0x5cb0a9dcbd41fbd4#64, 0x76f988da831153b5#64, 0x983e5152ee66dfab#64, 0xa831c66d2db43210#64, 0xb00327c898fb213f#64, 0xbf597fc7beef0ee4#64, 0xc6e00bf33da88fc2#64, 0xd5a79147930aa725#64, 0x06ca6351e003826f#64, 0x142929670a0e6e70#64, 0x27b70a8546d22ffc#64, 0x2e1b21385c26c926#64, 0x4d2c6dfc5ac42aed#64, 0x53380d139d95b3df#64, 0x650a73548baf63de#64, 0x766a0abb3c77b2a8#64, 0x81c2c92e47edaee6#64, 0x92722c851482353b#64, 0xa2bfe8a14cf10364#64, 0xa81a664bbc423001#64, 0xc24b8b70d0f89791#64, 0xc76c51a30654be30#64, 0xd192e819d6ef5218#64, 0xd69906245565a910#64, 0xf40e35855771202a#64, 0x106aa07032bbd1b8#64, 0x19a4c116b8d2d0c8#64, 0x1e376c085141ab53#64, 0x2748774cdf8eeb99#64, 0x34b0bcb5e19b48a8#64, 0x391c0cb3c5c95a63#64, 0x4ed8aa4ae3418acb#64, 0x5b9cca4f7763e373#64, 0x682e6ff3d6b2b8a3#64, 0x748f82ee5defb2fc#64, 0x78a5636f43172f60#64, 0x84c87814a1f0ab72#64, 0x8cc702081a6439ec#64, 0x90befffa23631e28#64, 0xa4506cebde82bde9#64, 0xbef9a3f7b2c67915#64, 0xc67178f2e372532b#64, 0xca273eceea26619c#64, 0xd186b8c721c0c207#64, 0xeada7dd6cde0eb1e#64, 0xf57d4f7fee6ed178#64, 0x06f067aa72176fba#64, 0x0a637dc5a2c898a6#64, 0x113f9804bef90dae#64, 0x1b710b35131c471b#64, 0x28db77f523047d84#64, 0x32caab7b40c72493#64, 0x3c9ebe0a15c9bebc#64, 0x431d67c49c100d4c#64, 0x4cc5d4becb3e42b6#64, 0x597f299cfc657e2a#64, 0x5fcb6fab3ad6faec#64, 0x6c44198c4a475817#64]
def btab : List (BitVec 64) := [0x6a09e667f3bcc908#64, 0xbb67ae8584caa73b#64, 0x3c6ef372fe94f82b#64, 0xa54ff53a5f1d36f1#64, 0x510e527fade682d1#64, 0x9b05688c2b3e6c1f#64, 0x1f83d9abfb41bd6b#64, 0x5be0cd19137e2179#64]
theorem rtab_len : rtab.length = 80 := rfl
theorem btab_len : btab.length = 8 := rfl
structure Tabs (w : World) : Prop where
  l1 : 8 < w.heap.size
  l0 : 3 < w.heap.size
  r : w.rangeAt 8 0 (rtab.map b64)
  b : w.rangeAt 3 0 (btab.map b64)
theorem Tabs.below {w w' : World} (h : Tabs w) (hb : Below w.heap.size w w') : Tabs w' :=
  ⟨Nat.lt_of_lt_of_le h.l1 hb.size, Nat.lt_of_lt_of_le h.l0 hb.size, qa8 h.r h.l1 hb, qa8 h.b h.l0 hb⟩
theorem Tabs.rc {w : World} (h : Tabs w) {i : Nat} (hi : i < 80) : w.cell? ⟨8, i, none⟩ = some (b64 (rtab.getD i 0)) := by
  have := h.r i _ (qa5 b64 0 (by rw [rtab_len]; exact hi))
  rwa [Nat.zero_add] at this
theorem Tabs.bc {w : World} (h : Tabs w) {i : Nat} (hi : i < 8) : w.cell? ⟨3, i, none⟩ = some (b64 (btab.getD i 0)) := by
  have := h.b i _ (qa5 b64 0 (by rw [btab_len]; exact hi))
  rwa [Nat.zero_add] at this
end Go.Proofs.YtfdjmdfaidiliaaGreatDoor
