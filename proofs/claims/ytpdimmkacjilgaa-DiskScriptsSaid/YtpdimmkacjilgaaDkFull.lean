/- Append with no room. No condition. -/
import Derived.Test.YtpdimmkacjilgaaDkRead
namespace Go.Proofs.Ytpdimmkacjilgaa
open Go.RowKit Go.Maps Go.ChangeMaps Go.WideMaps
set_option linter.unusedVariables false
set_option maxHeartbeats 2000000 in
set_option maxRecDepth 100000 in
theorem app_full (p : Nat) (d : DS) (W : World) (n s : ByteArray) (hs : s.size ≤ 281474976710656) (h : Rep W p d) (hu : upB d = true) (hnm : nameB n = true) (hsz : d.room - d.used < (s.size : Int)) :
    Calls Try.prog 15 #[dp p, .string n, .string s] W (Good W (.int .i64 5)) := by
  have hn40 : n.size ≤ 40 := by unfold nameB at hnm; simp at hnm; omega
  have hr0 := ready_c p d W h
  unfold rdyI at hr0
  rw [hu, if_pos rfl] at hr0
  have hn0 := nameable_c n (by omega) W
  rw [hnm] at hn0
  obtain ⟨y0, y1, y2, y3, y4⟩ := h.at
  have hu0 : 0 ≤ d.used := by have := h.used; omega
  have hu1 : d.used ≤ 4194304 := by have := h.used; have := h.room; omega
  have hwr : IntKind.i64.wrap (d.room - d.used) = d.room - d.used := IntWalk.i64_in _ (by have := h.room; have := h.used; omega)
  clear h hu hnm
  unfold dp at *
  go_enter Try.func15, Try.ntmps15
  go_wp2_with fail
  (with_reducible refine hr0.mono ?_)
  rintro en w1 ⟨rfl, hw⟩
  have hw' := hw.symm
  subst hw'
  clear hw
  go_wp2_with fail
  (with_reducible refine hn0.mono ?_)
  rintro en w2 ⟨rfl, hw⟩
  have hw' := hw.symm
  subst hw'
  clear hw
  go_wp2_with fail
  go_region_held3 (fun w => w.cell? ⟨p, 0, none⟩ = some (.int .i64 d.room) ∧ w.cell? ⟨p, 1, none⟩ = some (.int .i64 d.used)) (exact ⟨y0, y1⟩) (fail)
  go_wp2
  go_ret
  exact ⟨rfl, (Below.refl _ _).drew⟩
end Go.Proofs.Ytpdimmkacjilgaa
