import Derived.Test.YtcgbgmbnagmohaaDoorFlB
namespace Go.Proofs.YtcgbgmbnagmohaaDoor
open Go.RowKit
set_option maxRecDepth 20000
theorem szSg {l : List (BitVec 8)} (h : l.length = 64) : (Tryd.prog.info? 27).map (·.size) = some (l.map b8).length := by rw [List.length_map, h]; kernel_rfl
end Go.Proofs.YtcgbgmbnagmohaaDoor
