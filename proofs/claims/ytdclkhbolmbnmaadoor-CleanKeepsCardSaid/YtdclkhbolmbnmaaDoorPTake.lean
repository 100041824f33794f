/- varint.Take and Text by contracts, for every text of at most 2 to the 48 bytes. -/
import Derived.Test.YtdclkhbolmbnmaaDoorPGet
import Derived.Test.YtdclkhbolmbnmaaDoorPPut
import Derived.Test.YtdclkhbolmbnmaaDoorClone
import Derived.WalkKit
import Derived.ProofKit
import Derived.LoopTactic
import Derived.Lib.Hide
import Derived.ScopeJumps
import Derived.WalkMore
import Derived.WalkLawsBesides
import Derived.IntWalk
import Derived.Deep.RegionWith
import Derived.Laws.Concat
import Derived.Laws.DeepStrings4
namespace Go.Proofs.YtdclkhbolmbnmaaDoor
open Go.RowKit
set_option linter.unusedVariables false
theorem text_c (s : ByteArray) (W : World) (hs : s.size ≤ 281474976710656) : Calls Tryd.prog 84 #[.string s] W (Good W (.string (textG s))) := by
  have hp := put_c s.size W (code_len hs).1 (code_len hs).2
  have hl := put_size s.size
  have hx : Hid (textG s = ⟨(putL s.size).toArray⟩ ++ s) := Lib.hid rfl
  generalize (⟨(putL s.size).toArray⟩ : ByteArray) = r at *
  have hadd : ∀ w, (Op.stringOp .add r s).run Tryd.prog w = .ok (.string (r ++ s)) w := fun w => run_string_add_sum (w := w) r s (by omega)
  go_enter Tryd.func84, Tryd.ntmps84
  go_wp2_with ((with_reducible refine hp.mono ?_); rintro e w' ⟨rfl, hb⟩)
  go_ret
  exact ⟨by rw [hx.out]; rfl, hb⟩
end Go.Proofs.YtdclkhbolmbnmaaDoor
