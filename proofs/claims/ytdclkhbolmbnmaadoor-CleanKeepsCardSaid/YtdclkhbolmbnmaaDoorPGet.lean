/- varint.Get by one contract, for every text of at most 2 to the 60 bytes. -/
import Derived.Test.YtdclkhbolmbnmaaDoorNum
import Derived.WalkKit
import Derived.ProofKit
import Derived.LoopTactic
import Derived.Lib.Hide
import Derived.ScopeJumps
import Derived.WalkMore
import Derived.WalkLawsBesides
import Derived.IntWalk
import Derived.Deep.RegionWith
import Derived.Laws.Concat
import Derived.Laws.DeepStrings4
namespace Go.Proofs.YtdclkhbolmbnmaaDoor
open Go.RowKit
set_option linter.unusedVariables false
end Go.Proofs.YtdclkhbolmbnmaaDoor
