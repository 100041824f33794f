/- index: whole numbers and places; what tells them apart; entries as told. No condition. -/
import Derived.Test.YtljgiabaekddlaaMem
import Derived.Test.YtljgiabaekddlaaNum
import Derived.Test.YtljgiabaekddlaaIxNum
import Derived.Deep.RegionHeld3
import Derived.Maps.AppendAt
namespace Go.Proofs.Ytljgiabaekddlaa
open Go.RowKit
set_option linter.unusedVariables false
/-- May a number be? -/
def ixo (n : Int) : Bool := decide (0 ≤ n) && decide (n ≤ 1099511627776)
theorem ixo_of {n : Int} (h : ixo n = true) : 0 ≤ n ∧ n ≤ 1099511627776 := by
  unfold ixo at h
  simpa using h
theorem within_c (n : Int) (W : World) : Calls Try.prog 17 #[.int .i64 n] W (fun e w' => e = .returned (.bool (ixo n)) ∧ w' = W) := by
  unfold ixo
  by_cases h : 0 ≤ n
  · go_enter Try.func17, Try.ntmps17
    go_wp2
    go_ret
    refine ⟨?_, rfl⟩
    simp_all
  · have h' : decide (0 ≤ n) = false := decide_eq_false h
    go_enter Try.func17, Try.ntmps17
    go_wp2
    go_ret
    refine ⟨?_, rfl⟩
    simp
theorem may_c (n : Int) (W : World) : Calls Try.prog 21 #[.int .i64 n] W (fun e w' => e = .returned (.bool (ixo n)) ∧ w' = W) := by
  unfold ixo
  by_cases h : 0 ≤ n
  · go_enter Try.func21, Try.ntmps21
    go_wp2
    go_ret
    refine ⟨?_, rfl⟩
    simp_all
  · have h' : decide (0 ≤ n) = false := decide_eq_false h
    go_enter Try.func21, Try.ntmps21
    go_wp2
    go_ret
    refine ⟨?_, rfl⟩
    simp
theorem join_c (a b : Int) (W : World) : Calls Try.prog 19 #[.int .i64 a, .int .i64 b] W (fun e w' => e = .returned (.complex .f64 (fl a) (fl b)) ∧ w' = W) := by
  have h1 : ∀ w, (convert 3 60 (.int .i64 a)).run Try.prog w = .ok (.float .f64 (fl a)) w := fun w => run_convert_int_float (P := Try.prog) w 3 60 .i64 .f64 a (by kernel_rfl) Try.underlying60
  have h2 : ∀ w, (convert 3 60 (.int .i64 b)).run Try.prog w = .ok (.float .f64 (fl b)) w := fun w => run_convert_int_float (P := Try.prog) w 3 60 .i64 .f64 b (by kernel_rfl) Try.underlying60
  go_enter Try.func19, Try.ntmps19
  go_wp2
  go_ret
  exact ⟨rfl, rfl⟩
theorem split_c (a b : Int) (W : World) (ha : ixo a = true) (hb : ixo b = true) : Calls Try.prog 26 #[.complex .f64 (fl a) (fl b)] W (fun e w' => e = .returned (.tuple #[.int .i64 a, .int .i64 b]) ∧ w' = W) := by
  have h1 := fun w => run_convert_float_int (P := Try.prog) w 60 3 .f64 .i64 (fl a) a (by kernel_rfl) Try.underlying3 (fl_back (ixo_of ha).1 (ixo_of ha).2)
  have h2 := fun w => run_convert_float_int (P := Try.prog) w 60 3 .f64 .i64 (fl b) b (by kernel_rfl) Try.underlying3 (fl_back (ixo_of hb).1 (ixo_of hb).2)
  clear ha hb
  go_enter Try.func26, Try.ntmps26
  go_wp2
  go_ret2
  exact ⟨rfl, rfl⟩
end Go.Proofs.Ytljgiabaekddlaa
