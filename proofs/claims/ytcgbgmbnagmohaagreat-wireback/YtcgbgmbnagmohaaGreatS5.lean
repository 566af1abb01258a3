import Derived.Test.YtcgbgmbnagmohaaGreatCpy
namespace Go.Proofs.YtcgbgmbnagmohaaGreat
open Go.RowKit
set_option maxRecDepth 20000
structure S5 (r : World) (v : Value) (l : List (BitVec 8)) (u : World) : Prop where
  bl : Below r.heap.size r u
  O : u.ownsRow r.heap.size 5 1 v l.length (l.map b8)
theorem S5.below {r u u' : World} {v : Value} {l : List (BitVec 8)} (i : S5 r v l u) (hb : Below u.heap.size u u') : S5 r v l u' :=
  ⟨i.bl.trans (hb.mono i.bl.size), own_below i.O hb⟩
theorem S5.none (r : World) : S5 r (.slice none 0 0) [] r := ⟨Below.refl _ _, ⟨rfl, .inl ⟨rfl, rfl⟩⟩⟩
theorem S5.sl {r u : World} {v : Value} {l : List (BitVec 8)} (i : S5 r v l u) : Sl v l u := Sl.own i.O
theorem S5.mono {r r' u : World} {v : Value} {l : List (BitVec 8)} (i : S5 r' v l u) (hb : Below r.heap.size r r') : S5 r v l u := ⟨hb.trans (i.bl.mono hb.size), own_mono i.O hb.size⟩
end Go.Proofs.YtcgbgmbnagmohaaGreat
