import Derived.Test.YtcgbgmbnagmohaaGreatWrE
namespace Go.Proofs.YtcgbgmbnagmohaaGreat
open Go.RowKit
set_option maxRecDepth 20000
attribute [local irreducible] wpList
structure MUs where
  name : List (BitVec 8)
  acc : Int
  sure : Bool
def usAt (m : MUs) (cs : List Value) (_ : World) : Prop := cs = usR (.string (strOf m.name)) (.int .i64 m.acc) (.bool m.sure)
def usB (m : MUs) : List (BitVec 8) := txB m.name ++ viB m.acc ++ trB m.sure
end Go.Proofs.YtcgbgmbnagmohaaGreat
