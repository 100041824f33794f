/- assign: Range, by a contract: the walk. No condition. -/
import Derived.Test.YtlokhhjhckiloaaAsRan
import Derived.IntWalk
namespace Go.Proofs.Ytlokhhjhckiloaa
open Go.RowKit
set_option linter.unusedVariables false
theorem take_le {S : List SX} {s : ByteArray} {i m : Nat} (h : (takersG S s S.length)[i]? = some m) : m < S.length := (takersG_mem.1 (List.mem_of_getElem? h)).1
end Go.Proofs.Ytlokhhjhckiloaa
