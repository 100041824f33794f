/- What every proof of this seat leans on: the program's own settings, and a world for the witness. No condition. -/
import Derived.Test.YtlokhhjhckiloaaGreatRows
import Derived.Test.YtlokhhjhckiloaaGreatKit
import Derived.ProofKit
import Derived.Deep.DeepHandedRow
namespace Go.Proofs.YtlokhhjhckiloaaGreat
open Go.ChangeShapes Go.WideShapes Go.ChangeAt Go.RowKit
theorem own : ownKnob Tryz.prog.godebug = none := by kernel_rfl
theorem laidOut : laidOutB Tryz.prog = true := by kernel_rfl
noncomputable def startW (os : Os) : World := World.holding Tryz.prog os ⟨#[], #[], []⟩
end Go.Proofs.YtlokhhjhckiloaaGreat
