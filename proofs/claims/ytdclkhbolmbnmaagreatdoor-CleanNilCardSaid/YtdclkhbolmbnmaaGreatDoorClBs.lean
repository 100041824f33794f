/- What the frames of clean's seat lean on. No condition. -/
import Derived.Test.YtdclkhbolmbnmaaGreatDoorCards
import Derived.Test.YtdclkhbolmbnmaaGreatDoorTie
import Derived.Test.YtdclkhbolmbnmaaGreatDoorKit
import Derived.ProofKit
import Derived.LaidMore
import Derived.Deep.DeepHandedRow
import Derived.Lib.LaidTab
namespace Go.Proofs.YtdclkhbolmbnmaaGreatDoor
open Go.ChangeShapes Go.WideShapes Go.ChangeAt Go.RowKit
theorem own : ownKnob Tryz.prog.godebug = none := by kernel_rfl
theorem laidOut : laidOutB Tryz.prog = true := by kernel_rfl
theorem tab_of {p : Prop} (_ : p) : True := trivial
noncomputable def startW (os : Os) : World := World.doorLaid Tryz.prog 400 os
end Go.Proofs.YtdclkhbolmbnmaaGreatDoor
