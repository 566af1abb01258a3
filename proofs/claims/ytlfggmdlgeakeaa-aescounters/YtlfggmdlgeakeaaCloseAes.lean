/- No package-level variable: any world serves for the witness. -/
import Derived.Test.YtlfggmdlgeakeaaShut
namespace Go.Proofs.Ytlfggmdlgeakeaa
noncomputable def laidWorld (os : Os) : World := World.holding Try.prog os ⟨#[], #[], []⟩
end Go.Proofs.Ytlfggmdlgeakeaa
