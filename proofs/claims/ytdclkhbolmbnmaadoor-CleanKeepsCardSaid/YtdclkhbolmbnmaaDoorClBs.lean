/- What the frames of clean's seat lean on. No condition. -/
import Derived.Test.YtdclkhbolmbnmaaDoorCards
import Derived.Test.YtdclkhbolmbnmaaDoorTie
import Derived.Test.YtdclkhbolmbnmaaDoorKit
import Derived.ProofKit
import Derived.LaidMore
import Derived.Deep.DeepHandedRow
import Derived.Lib.LaidTab
namespace Go.Proofs.YtdclkhbolmbnmaaDoor
open Go.ChangeShapes Go.WideShapes Go.ChangeAt Go.RowKit
theorem own : ownKnob Tryd.prog.godebug = none := by kernel_rfl
theorem laidOut : laidOutB Tryd.prog = true := by kernel_rfl
theorem tab_of {p : Prop} (_ : p) : True := trivial
noncomputable def startW (os : Os) : World := World.doorLaid Tryd.prog 400 os
end Go.Proofs.YtdclkhbolmbnmaaDoor
