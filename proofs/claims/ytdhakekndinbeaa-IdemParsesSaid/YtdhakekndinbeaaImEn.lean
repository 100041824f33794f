/- idem: Epoch of one that is none. No condition. -/
import Derived.Test.YtdhakekndinbeaaImPa
import Derived.Test.YtdhakekndinbeaaPPut
namespace Go.Proofs.Ytdhakekndinbeaa
open Go.RowKit
set_option linter.unusedVariables false
theorem epoch_nil (n : Int) (W : World) : Calls Try.prog 14 #[.pointer none, .int .i64 n] W (Good W (.int .i64 (-1))) := by
  have c := find_nil n
  go_enter Try.func14, Try.ntmps14
  go_wp2_with fail
  with_reducible refine (c _).mono ?_
  rintro en w2 ⟨rfl, hw⟩
  have hw' := hw.symm
  subst hw'
  go_wp2_with fail
  go_ret
  exact ⟨rfl, Below.refl _ _⟩
end Go.Proofs.Ytdhakekndinbeaa
