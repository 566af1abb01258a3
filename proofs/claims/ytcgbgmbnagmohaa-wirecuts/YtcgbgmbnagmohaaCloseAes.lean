import Derived.Test.YtcgbgmbnagmohaaShut
namespace Go.Proofs.Ytcgbgmbnagmohaa
set_option maxRecDepth 20000
noncomputable def laidWorld (os : Os) : World := World.holding Try.prog os ⟨#[], #[], []⟩
end Go.Proofs.Ytcgbgmbnagmohaa
