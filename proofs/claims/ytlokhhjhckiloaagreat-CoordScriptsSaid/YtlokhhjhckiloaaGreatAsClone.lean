/- strings.Clone. No condition. -/
import Derived.Test.YtlokhhjhckiloaaGreatNum
import Derived.Test.YtlokhhjhckiloaaGreatClone
import Derived.WalkKit
import Derived.ProofKit
import Derived.Lib.Hide
namespace Go.Proofs.YtlokhhjhckiloaaGreat
open Go.RowKit
set_option linter.unusedVariables false
theorem clone_c (s : ByteArray) (W : World) (hs : s.size ≤ 281474976710656) : Calls Tryz.prog 41 #[.string s] W (Good W (.string s)) := by
  go_enter Tryz.func41, Tryz.ntmps41
  go_wp2_with (go_at_call 73; refine (Tryz.stringslite_Clone s _ hs).mono ?_; rintro e w1 ⟨rfl, hb⟩)
  go_ret
  exact ⟨rfl, hb⟩
end Go.Proofs.YtlokhhjhckiloaaGreat
