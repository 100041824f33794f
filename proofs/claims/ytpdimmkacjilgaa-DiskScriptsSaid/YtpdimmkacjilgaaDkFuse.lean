/- Fuse. No condition. -/
import Derived.Test.YtpdimmkacjilgaaDkCut
import Derived.Deep.RegionWith
namespace Go.Proofs.Ytpdimmkacjilgaa
open Go.RowKit Go.Maps Go.ChangeMaps Go.WideMaps
set_option linter.unusedVariables false
def fuseD (d : DS) (n : Int) : DS := { d with fused := decide (0 ≤ n), left := max n 0 }
theorem fuse_rep {W : World} {p : Nat} {d : DS} (h : Rep W p d) (n : Int) (hn : n ≤ 9223372036854775807) :
    Rep ((W.setCell ⟨p, 3, none⟩ (.bool (decide (0 ≤ n)))).setCell ⟨p, 4, none⟩ (.int .i64 (max n 0))) p (fuseD d n) ∧ Off (· = p) W ((W.setCell ⟨p, 3, none⟩ (.bool (decide (0 ≤ n)))).setCell ⟨p, 4, none⟩ (.int .i64 (max n 0))) := by
  have ho : Off (· = p) W ((W.setCell ⟨p, 3, none⟩ (.bool (decide (0 ≤ n)))).setCell ⟨p, 4, none⟩ (.int .i64 (max n 0))) := ((Off.refl (· = p) W).set (p := ⟨p, 3, none⟩) (.inl rfl) _).set (p := ⟨p, 4, none⟩) (.inl rfl) _
  exact ⟨h.scal ((h.box.set 3 (.bool (decide (0 ≤ n)))).set 4 (.int .i64 (max n 0))) ho rfl rfl h.room h.used (by show 0 ≤ max n 0 ∧ max n 0 ≤ _; omega), ho⟩
set_option maxHeartbeats 2000000 in
set_option maxRecDepth 100000 in
theorem fuse_c (p : Nat) (d : DS) (W : World) (h : Rep W p d) (n : Int) (h0 : -1 ≤ n) (h1 : n ≤ 9223372036854775807) :
    Calls Try.prog 20 #[dp p, .int .i64 n] W (Turns W p (fuseD d n) (.int .i64 0)) := by
  obtain ⟨y0, y1, y2, y3, y4⟩ := h.at
  have z3 := h.box.frozen 3
  have z4 := h.box.frozen 4
  obtain ⟨R3, o3⟩ := fuse_rep h n h1
  have R := Lib.hid R3
  have O := Lib.hid o3
  clear h R3 o3
  unfold dp
  go_enter Try.func20, Try.ntmps20
  go_wp2
  go_ret
  exact ⟨rfl, R.out, O.out⟩
theorem fuse_low (p : Nat) (W : World) (n : Int) (h0 : n < -1) : Calls Try.prog 20 #[dp p, .int .i64 n] W (Tells W (.int .i64 1)) := by
  unfold dp
  go_enter Try.func20, Try.ntmps20
  go_wp2
  go_ret
  exact ⟨rfl, rfl⟩
theorem fuse_nil (W : World) (n : Int) : Calls Try.prog 20 #[.pointer none, .int .i64 n] W (Tells W (.int .i64 1)) := by
  go_enter Try.func20, Try.ntmps20
  go_wp2
  go_ret
  exact ⟨rfl, rfl⟩
theorem used_nil (W : World) : Calls Try.prog 22 #[.pointer none] W (Tells W (.int .i64 0)) := by
  go_enter Try.func22, Try.ntmps22
  go_wp2
  go_ret
  exact ⟨rfl, rfl⟩
theorem room_nil (W : World) : Calls Try.prog 23 #[.pointer none] W (Tells W (.int .i64 0)) := by
  go_enter Try.func23, Try.ntmps23
  go_wp2
  go_ret
  exact ⟨rfl, rfl⟩
theorem copy_nil (W : World) : Calls Try.prog 14 #[.pointer none] W (Tells W (.pointer none)) := by
  go_enter Try.func14, Try.ntmps14
  go_wp2
  go_ret
  exact ⟨rfl, rfl⟩
theorem names_nil (W : World) : Calls Try.prog 21 #[.pointer none] W (Tells W (.slice none 0 0)) := by
  have hu := up_nil W
  go_enter Try.func21, Try.ntmps21
  go_wp2_with fail
  (with_reducible refine hu.mono ?_)
  rintro en w1 ⟨rfl, rfl⟩
  go_wp2
  go_ret
  exact ⟨rfl, rfl⟩
theorem crash_nil (W : World) (v : Value) : Calls Try.prog 25 #[.pointer none, v] W (Tells W (.int .i64 0)) := by
  go_enter Try.func25, Try.ntmps25
  go_wp2
  go_ret
  exact ⟨rfl, rfl⟩
theorem cut_nil (n : ByteArray) (k : Int) (W : World) : Calls Try.prog 17 #[.pointer none, .string n, .int .i64 k] W (Tells W (.int .i64 1)) := by
  have hu := find_nil n W
  go_enter Try.func17, Try.ntmps17
  go_wp2_with fail
  (with_reducible refine hu.mono ?_)
  rintro en w1 ⟨rfl, rfl⟩
  go_wp2
  go_ret
  exact ⟨rfl, rfl⟩
theorem rename_nil (n k : ByteArray) (W : World) : Calls Try.prog 18 #[.pointer none, .string n, .string k] W (Tells W (.int .i64 1)) := by
  have hu := find_nil n W
  go_enter Try.func18, Try.ntmps18
  go_wp2_with fail
  (with_reducible refine hu.mono ?_)
  rintro en w1 ⟨rfl, rfl⟩
  go_wp2
  go_ret
  exact ⟨rfl, rfl⟩
end Go.Proofs.Ytpdimmkacjilgaa
