/- strings.Clone. No condition. -/
import Derived.Test.YthbcklamhoekmaaNum
import Derived.Test.YthbcklamhoekmaaClone
import Derived.WalkKit
import Derived.ProofKit
import Derived.Lib.Hide
namespace Go.Proofs.Ythbcklamhoekmaa
open Go.RowKit
set_option linter.unusedVariables false
theorem clone_c (s : ByteArray) (W : World) (hs : s.size ≤ 281474976710656) : Calls Try.prog 48 #[.string s] W (Good W (.string s)) := by
  go_enter Try.func48, Try.ntmps48
  go_wp2_with (go_at_call 67; refine (Try.stringslite_Clone s _ hs).mono ?_; rintro e w1 ⟨rfl, hb⟩)
  go_ret
  exact ⟨rfl, hb⟩
end Go.Proofs.Ythbcklamhoekmaa
