/- What every proof of this seat leans on: the program's own settings, and a world for the witness. No condition. -/
import Derived.Test.YtlokhhjhckiloaaRows
import Derived.Test.YtlokhhjhckiloaaKit
import Derived.ProofKit
import Derived.Deep.DeepHandedRow
namespace Go.Proofs.Ytlokhhjhckiloaa
open Go.ChangeShapes Go.WideShapes Go.ChangeAt Go.RowKit
theorem own : ownKnob Try.prog.godebug = none := by kernel_rfl
theorem laidOut : laidOutB Try.prog = true := by kernel_rfl
noncomputable def startW (os : Os) : World := World.holding Try.prog os ⟨#[], #[], []⟩
end Go.Proofs.Ytlokhhjhckiloaa
