/- The law's own examples. Condition: the tables of utf8. -/
import Derived.Test.YtmnmgbbdjpfonaaDoorMtTkHas
import Derived.Test.YtmnmgbbdjpfonaaDoorMtTkRef2
namespace Go.Proofs.YtmnmgbbdjpfonaaDoor
open Go.RowKit
set_option linter.unusedVariables false
theorem has_c (L wd : List UInt8) (hl : L.length ≤ 140737488351232) (hw : wd.length ≤ 140737488351232) (w : World) (hT : Tabs w) : Calls Tryd.prog 34 #[.string (bs L), .string (bs wd)] w (Good w (.bool (hasB L wd))) :=
  (callsIn_wide (n := 9)).1 (has_in L wd hl hw w hT)
end Go.Proofs.YtmnmgbbdjpfonaaDoor
