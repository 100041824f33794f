/- Drop; refusals of Drop and Sync. No condition. -/
import Derived.Test.YtpdimmkacjilgaaDkLose
namespace Go.Proofs.Ytpdimmkacjilgaa
open Go.RowKit Go.Maps Go.ChangeMaps Go.WideMaps
set_option linter.unusedVariables false
theorem sync_none (p : Nat) (d : DS) (n : ByteArray) (hn : n.size ≤ maxLen) (W : World) (h : Rep W p d) (hd : upB d = true) (hf : fileOf d.F n.data.toList = none) : Calls Try.prog 16 #[dp p, .string n] W (Tells W (.int .i64 6)) := by
  have hu := find_none p d n hn W h hd hf
  clear h hd hf
  unfold dp at *
  go_enter Try.func16, Try.ntmps16
  go_wp2_with fail
  (with_reducible refine hu.mono ?_)
  rintro en w1 ⟨rfl, rfl⟩
  go_wp2
  go_ret
  exact ⟨rfl, rfl⟩
theorem sync_down (p : Nat) (d : DS) (n : ByteArray) (W : World) (h : Rep W p d) (hd : upB d = false) : Calls Try.prog 16 #[dp p, .string n] W (Tells W (.int .i64 7)) := by
  have hu := find_down p d n W h hd
  clear h hd
  unfold dp at *
  go_enter Try.func16, Try.ntmps16
  go_wp2_with fail
  (with_reducible refine hu.mono ?_)
  rintro en w1 ⟨rfl, rfl⟩
  go_wp2
  go_ret
  exact ⟨rfl, rfl⟩
theorem sync_nil (n : ByteArray) (W : World) : Calls Try.prog 16 #[.pointer none, .string n] W (Tells W (.int .i64 1)) := by
  have hu := find_nil n W
  go_enter Try.func16, Try.ntmps16
  go_wp2_with fail
  (with_reducible refine hu.mono ?_)
  rintro en w1 ⟨rfl, rfl⟩
  go_wp2
  go_ret
  exact ⟨rfl, rfl⟩
theorem drop_none (p : Nat) (d : DS) (n : ByteArray) (hn : n.size ≤ maxLen) (W : World) (h : Rep W p d) (hd : upB d = true) (hf : fileOf d.F n.data.toList = none) : Calls Try.prog 19 #[dp p, .string n] W (Tells W (.int .i64 6)) := by
  have hu := find_none p d n hn W h hd hf
  clear h hd hf
  unfold dp at *
  go_enter Try.func19, Try.ntmps19
  go_wp2_with fail
  (with_reducible refine hu.mono ?_)
  rintro en w1 ⟨rfl, rfl⟩
  go_wp2
  go_ret
  exact ⟨rfl, rfl⟩
theorem drop_down (p : Nat) (d : DS) (n : ByteArray) (W : World) (h : Rep W p d) (hd : upB d = false) : Calls Try.prog 19 #[dp p, .string n] W (Tells W (.int .i64 7)) := by
  have hu := find_down p d n W h hd
  clear h hd
  unfold dp at *
  go_enter Try.func19, Try.ntmps19
  go_wp2_with fail
  (with_reducible refine hu.mono ?_)
  rintro en w1 ⟨rfl, rfl⟩
  go_wp2
  go_ret
  exact ⟨rfl, rfl⟩
theorem drop_nil (n : ByteArray) (W : World) : Calls Try.prog 19 #[.pointer none, .string n] W (Tells W (.int .i64 1)) := by
  have hu := find_nil n W
  go_enter Try.func19, Try.ntmps19
  go_wp2_with fail
  (with_reducible refine hu.mono ?_)
  rintro en w1 ⟨rfl, rfl⟩
  go_wp2
  go_ret
  exact ⟨rfl, rfl⟩
theorem drop_some (p : Nat) (d : DS) (n : ByteArray) (hn : n.size ≤ maxLen) (W : World) (h : Rep W p d) (hd : upB d = true) (f : DF) (hf : fileOf d.F n.data.toList = some f) :
    Calls Try.prog 19 #[dp p, .string n] W (Gives W p d (.int .i64 0) fun d' => d' = chg (loseD d f)) := by
  have hu := find_some p d n hn W h hd f hf
  have hlo := lose_some p d W n hn h f hf
  unfold dp at *
  go_enter Try.func19, Try.ntmps19
  go_wp2_with fail
  (with_reducible refine hu.mono ?_)
  rintro en w1 ⟨rfl, hw⟩
  have hw' := hw.symm
  subst hw'
  go_wp2_with fail
  (with_reducible refine hlo.mono ?_)
  rintro en w2 ⟨rfl, d2, R2, rfl, o2, f2⟩
  have hch := changed_c p _ _ R2 hd
  unfold dp at hch
  go_wp2_with fail
  (with_reducible refine hch.mono ?_)
  rintro en w4 ⟨rfl, R4, o4⟩
  go_wp2
  go_ret
  exact ⟨rfl, _, R4, rfl, o2.trans o4 fun k _ hk => .inl hk, fun k hk => f2 k hk⟩
end Go.Proofs.Ytpdimmkacjilgaa
