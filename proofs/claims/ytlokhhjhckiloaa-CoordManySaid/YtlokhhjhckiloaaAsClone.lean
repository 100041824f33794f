/- strings.Clone. No condition. -/
import Derived.Test.YtlokhhjhckiloaaNum
import Derived.Test.YtlokhhjhckiloaaClone
import Derived.WalkKit
import Derived.ProofKit
import Derived.Lib.Hide
namespace Go.Proofs.Ytlokhhjhckiloaa
open Go.RowKit
set_option linter.unusedVariables false
theorem clone_c (s : ByteArray) (W : World) (hs : s.size ≤ 281474976710656) : Calls Try.prog 18 #[.string s] W (Good W (.string s)) := by
  go_enter Try.func18, Try.ntmps18
  go_wp2_with (go_at_call 35; refine (Try.stringslite_Clone s _ hs).mono ?_; rintro e w1 ⟨rfl, hb⟩)
  go_ret
  exact ⟨rfl, hb⟩
end Go.Proofs.Ytlokhhjhckiloaa
