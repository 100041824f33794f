/- strings.Clone. No condition. -/
import Derived.Test.YtmnmgbbdjpfonaaDoorNum
import Derived.Test.YtmnmgbbdjpfonaaDoorDec
import Derived.WalkKit
import Derived.ProofKit
import Derived.Lib.Hide
namespace Go.Proofs.YtmnmgbbdjpfonaaDoor
open Go.RowKit
set_option linter.unusedVariables false
theorem clone_c (s : ByteArray) (W : World) (hs : s.size ≤ 281474976710656) : Calls Tryd.prog 37 #[.string s] W (Good W (.string s)) := by
  go_enter Tryd.func37, Tryd.ntmps37
  go_wp2_with (go_at_call 49; refine (Tryd.stringslite_Clone s _ hs).mono ?_; rintro e w1 ⟨rfl, hb⟩)
  go_ret
  exact ⟨rfl, hb⟩
end Go.Proofs.YtmnmgbbdjpfonaaDoor
