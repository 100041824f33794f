/- member: MemberNil, for its frame. No condition. -/
import Derived.Test.YtlojecfnbcckjaaMbNil
import Derived.Test.YtlojecfnbcckjaaMbOp
namespace Go.Proofs.Ytlojecfnbcckjaa
open Go.RowKit
theorem memberNil_walk (x : OM) (W : World) (_hk : OMk W x) : Calls Try.prog 3 #[.agg (omL x).toArray] W (Good W (.bool true)) := memberNil_w x.do_ x.m x.TA x.T.length x.tc x.gen x.PA x.P.length x.pc x.rnd x.now W
end Go.Proofs.Ytlojecfnbcckjaa
