import Derived.Test.YtcgbgmbnagmohaaGreatShut
namespace Go.Proofs.YtcgbgmbnagmohaaGreat
set_option maxRecDepth 20000
noncomputable def laidWorld (os : Os) : World := World.holding Tryz.prog os ⟨#[], #[], []⟩
end Go.Proofs.YtcgbgmbnagmohaaGreat
