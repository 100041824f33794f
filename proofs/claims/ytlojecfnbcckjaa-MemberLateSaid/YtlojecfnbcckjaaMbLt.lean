/- member: MemberLate, for its frame. No condition. -/
import Derived.Test.YtlojecfnbcckjaaMbLate
namespace Go.Proofs.Ytlojecfnbcckjaa
open Go.RowKit
theorem memberLate_walk (r early : Int) (W : World) (_h0 : (Lit.int .i64 r).wf = true) (h1 : (Lit.int .i64 early).wf = true) : Calls Try.prog 7 #[.int .i64 r, .int .i64 early] W (Good W (.bool true)) := memberLate_w r early W (i64_bd h1).1 (i64_bd h1).2
end Go.Proofs.Ytlojecfnbcckjaa
