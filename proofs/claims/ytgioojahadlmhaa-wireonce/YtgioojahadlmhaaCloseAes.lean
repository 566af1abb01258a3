import Derived.Test.YtgioojahadlmhaaShut
namespace Go.Proofs.Ytgioojahadlmhaa
set_option maxRecDepth 20000
noncomputable def laidWorld (os : Os) : World := World.holding Try.prog os ⟨#[], #[], []⟩
end Go.Proofs.Ytgioojahadlmhaa
