/- Cut and Fuse. No condition. -/
import Derived.Test.YtpdimmkacjilgaaDkDrop
namespace Go.Proofs.Ytpdimmkacjilgaa
open Go.RowKit Go.Maps Go.ChangeMaps Go.WideMaps
set_option linter.unusedVariables false
set_option maxHeartbeats 2000000 in
set_option maxRecDepth 100000 in
theorem cut_some (p : Nat) (d : DS) (n : ByteArray) (hn : n.size ≤ maxLen) (W : World) (h : Rep W p d) (hd : upB d = true) (f : DF) (hf : fileOf d.F n.data.toList = some f) (k : Nat) (hk : k ≤ f.bytes.length) :
    Calls Try.prog 17 #[dp p, .string n, .int .i64 (k : Int)] W (Gives W p d (.int .i64 0) fun d' => ∃ v, d' = chg (shortD d f k v)) := by
  have hu := find_some p d n hn W h hd f hf
  have hmem := (file_in hf).1
  have fi := h.files f hmem
  have x0 : W.cell? ⟨f.blk, 0, none⟩ = some f.v := (fi.box.cell 0).trans rfl
  obtain ⟨ao, cap, hv⟩ : ∃ ao cap, f.v = .slice ao f.bytes.length cap := by
    rcases fi.row.2 with ⟨hv, h0⟩ | ⟨g, cap, cur, hv, _⟩
    · exact ⟨_, _, by rw [h0]; exact hv⟩
    · exact ⟨_, _, hv⟩
  rw [hv] at x0
  have hlo := shorten_c p d W h f hmem k hk
  have hk0 : (0 : Int) ≤ (k : Int) := by omega
  have hk1 : (k : Int) ≤ (f.bytes.length : Int) := by omega
  unfold dp at *
  go_enter Try.func17, Try.ntmps17
  go_wp2_with fail
  (with_reducible refine hu.mono ?_)
  rintro en w1 ⟨rfl, hw⟩
  have hw' := hw.symm
  subst hw'
  go_wp2_with fail
  (with_reducible refine hlo.mono ?_)
  rintro en w2 ⟨rfl, d2, R2, ⟨v, rfl⟩, o2, f2⟩
  have hch := changed_c p _ _ R2 hd
  unfold dp at hch
  go_wp2_with fail
  (with_reducible refine hch.mono ?_)
  rintro en w4 ⟨rfl, R4, o4⟩
  go_wp2
  go_ret
  exact ⟨rfl, _, R4, ⟨_, rfl⟩, o2.trans o4 fun k _ hk => .inl hk, fun k hk => f2 k hk⟩
theorem cut_bad (p : Nat) (d : DS) (n : ByteArray) (hn : n.size ≤ maxLen) (W : World) (h : Rep W p d) (hd : upB d = true) (f : DF) (hf : fileOf d.F n.data.toList = some f) (k : Int) (hk : k < 0 ∨ (f.bytes.length : Int) < k) :
    Calls Try.prog 17 #[dp p, .string n, .int .i64 k] W (Tells W (.int .i64 1)) := by
  have hu := find_some p d n hn W h hd f hf
  have hmem := (file_in hf).1
  have fi := h.files f hmem
  have x0 : W.cell? ⟨f.blk, 0, none⟩ = some f.v := (fi.box.cell 0).trans rfl
  obtain ⟨ao, cap, hv⟩ : ∃ ao cap, f.v = .slice ao f.bytes.length cap := by
    rcases fi.row.2 with ⟨hv, h0⟩ | ⟨g, cap, cur, hv, _⟩
    · exact ⟨_, _, by rw [h0]; exact hv⟩
    · exact ⟨_, _, hv⟩
  rw [hv] at x0
  clear h hd hf fi hv
  unfold dp at *
  by_cases hk0 : k < 0
  · go_enter Try.func17, Try.ntmps17
    go_wp2_with fail
    (with_reducible refine hu.mono ?_)
    rintro en w1 ⟨rfl, hw⟩
    have hw' := hw.symm
    subst hw'
    go_wp2
    go_ret
    exact ⟨rfl, rfl⟩
  · have hk1 : (f.bytes.length : Int) < k := by omega
    have hk2 : (0 : Int) ≤ k := by omega
    clear hk
    go_enter Try.func17, Try.ntmps17
    go_wp2_with fail
    (with_reducible refine hu.mono ?_)
    rintro en w1 ⟨rfl, hw⟩
    have hw' := hw.symm
    subst hw'
    go_wp2
    go_ret
    exact ⟨rfl, rfl⟩
end Go.Proofs.Ytpdimmkacjilgaa
