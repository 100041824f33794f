/- Append's refusals, Read, Sync. No condition. -/
import Derived.Test.YtpdimmkacjilgaaDkApp3
namespace Go.Proofs.Ytpdimmkacjilgaa
open Go.RowKit Go.Maps Go.ChangeMaps Go.WideMaps
set_option linter.unusedVariables false
theorem own_bsl {w : World} {e base : Nat} {v : Value} {l : List UInt8} (h : w.ownsRow base e 1 v l.length (byteCells l)) : BSl w e base v l := by
  rcases h.2 with ⟨hv, hn⟩ | ⟨g, cap, cur, hv, hb, hg, hnc, hcm, hcs, ht⟩
  · exact .inl ⟨hv, List.length_eq_zero_iff.1 hn⟩
  · refine .inr ⟨g, cap, hv, hb, cur, 0, 0, hg, .inl (Nat.le_refl _), by omega, hnc, fun j c hj => ?_⟩
    have h1 : (byteCells l)[j]? = some (.int .u8 (c.toNat : Int)) := by unfold byteCells; rw [List.getElem?_map, hj]; rfl
    rw [← ht, List.getElem?_take] at h1
    split at h1
    · simpa using h1
    · cases h1
theorem app_nil (n s : ByteArray) (W : World) : Calls Try.prog 15 #[.pointer none, .string n, .string s] W (Tells W (.int .i64 1)) := by
  have hu := ready_nil W
  go_enter Try.func15, Try.ntmps15
  go_wp2_with fail
  (with_reducible refine hu.mono ?_)
  rintro en w1 ⟨rfl, rfl⟩
  go_wp2
  go_ret
  exact ⟨rfl, rfl⟩
theorem app_down (p : Nat) (d : DS) (n s : ByteArray) (W : World) (h : Rep W p d) (hd : upB d = false) : Calls Try.prog 15 #[dp p, .string n, .string s] W (Tells W (.int .i64 7)) := by
  have hu := ready_c p d W h
  unfold rdyI at hu
  rw [hd] at hu
  simp only [Bool.false_eq_true, if_false] at hu
  clear h hd
  unfold dp at *
  go_enter Try.func15, Try.ntmps15
  go_wp2_with fail
  (with_reducible refine hu.mono ?_)
  rintro en w1 ⟨rfl, rfl⟩
  go_wp2
  go_ret
  exact ⟨rfl, rfl⟩
theorem app_name (p : Nat) (d : DS) (n s : ByteArray) (W : World) (hn : n.size ≤ 140737488351232) (h : Rep W p d) (hd : upB d = true) (hnm : nameB n = false) : Calls Try.prog 15 #[dp p, .string n, .string s] W (Tells W (.int .i64 1)) := by
  have hu := ready_c p d W h
  unfold rdyI at hu
  rw [hd] at hu
  simp only [if_true] at hu
  have hn0 := nameable_c n hn W
  rw [hnm] at hn0
  clear h hd hnm
  unfold dp at *
  go_enter Try.func15, Try.ntmps15
  go_wp2_with fail
  (with_reducible refine hu.mono ?_)
  rintro en w1 ⟨rfl, hw⟩
  have hw' := hw.symm
  subst hw'
  go_wp2_with fail
  (with_reducible refine hn0.mono ?_)
  rintro en w1 ⟨rfl, rfl⟩
  go_wp2
  go_ret
  exact ⟨rfl, rfl⟩
theorem read_nil (n : ByteArray) (W : World) : Calls Try.prog 13 #[.pointer none, .string n] W (Tells W (.tuple #[.string ⟨#[]⟩, .int .i64 1])) := by
  have hu := find_nil n W
  go_enter Try.func13, Try.ntmps13
  go_wp2_with fail
  (with_reducible refine hu.mono ?_)
  rintro en w1 ⟨rfl, rfl⟩
  go_wp2
  go_ret2
  exact ⟨rfl, rfl⟩
theorem read_down (p : Nat) (d : DS) (n : ByteArray) (W : World) (h : Rep W p d) (hd : upB d = false) : Calls Try.prog 13 #[dp p, .string n] W (Tells W (.tuple #[.string ⟨#[]⟩, .int .i64 7])) := by
  have hu := find_down p d n W h hd
  clear h hd
  unfold dp at *
  go_enter Try.func13, Try.ntmps13
  go_wp2_with fail
  (with_reducible refine hu.mono ?_)
  rintro en w1 ⟨rfl, rfl⟩
  go_wp2
  go_ret2
  exact ⟨rfl, rfl⟩
theorem read_none (p : Nat) (d : DS) (n : ByteArray) (hn : n.size ≤ maxLen) (W : World) (h : Rep W p d) (hd : upB d = true) (hf : fileOf d.F n.data.toList = none) : Calls Try.prog 13 #[dp p, .string n] W (Tells W (.tuple #[.string ⟨#[]⟩, .int .i64 6])) := by
  have hu := find_none p d n hn W h hd hf
  clear h hd hf
  unfold dp at *
  go_enter Try.func13, Try.ntmps13
  go_wp2_with fail
  (with_reducible refine hu.mono ?_)
  rintro en w1 ⟨rfl, rfl⟩
  go_wp2
  go_ret2
  exact ⟨rfl, rfl⟩
theorem read_some (p : Nat) (d : DS) (n : ByteArray) (hn : n.size ≤ maxLen) (W : World) (h : Rep W p d) (hd : upB d = true) (f : DF) (hf : fileOf d.F n.data.toList = some f) : Calls Try.prog 13 #[dp p, .string n] W (Tells W (.tuple #[.string ⟨f.bytes.toArray⟩, .int .i64 0])) := by
  have hu := find_some p d n hn W h hd f hf
  have fi := h.files f (file_in hf).1
  have x0 : W.cell? ⟨f.blk, 0, none⟩ = some f.v := (fi.box.cell 0).trans rfl
  have hcv := (own_bsl fi.row).text (P := Try.prog) 67 9 Try.underlying67 Try.underlying5 Try.underlying9
  obtain ⟨ao, n', cap, hv⟩ : ∃ ao n' cap, f.v = .slice ao n' cap := by
    rcases fi.row.2 with ⟨hv, _⟩ | ⟨g, cap, cur, hv, _⟩
    · exact ⟨_, _, _, hv⟩
    · exact ⟨_, _, _, hv⟩
  rw [hv] at x0 hcv
  clear h hd hf fi hv
  unfold dp at *
  go_enter Try.func13, Try.ntmps13
  go_wp2_with fail
  (with_reducible refine hu.mono ?_)
  rintro en w1 ⟨rfl, hw⟩
  have hw' := hw.symm
  subst hw'
  go_wp2
  go_ret2
  exact ⟨rfl, rfl⟩
def syncF (f : DF) : DF := { f with safe := f.bytes.length }
def syncD (d : DS) (f : DF) : DS := { d with F := repl f (syncF f) d.F }
theorem sync_rep {W : World} {p : Nat} {d : DS} (h : Rep W p d) {f : DF} (hf : f ∈ d.F) : Rep (W.setCell ⟨f.blk, 1, none⟩ (.int .i64 (f.bytes.length : Int))) p (syncD d f) ∧ Off (fun k => k = f.blk) W (W.setCell ⟨f.blk, 1, none⟩ (.int .i64 (f.bytes.length : Int))) ∧ ∀ k, Foot p (syncD d f) k → Foot p d k := by
  have fi := h.files f hf
  obtain ⟨a1, a2⟩ := h.apart
  have n2 := own_ne fi.row fi.box (by decide)
  have ho : Off (fun k => k = f.blk) W (W.setCell ⟨f.blk, 1, none⟩ (.int .i64 (f.bytes.length : Int))) := Off.one W ⟨f.blk, 1, none⟩ _
  have ht := total_repl (f' := syncF f) h.blks hf
  have hl2 : (syncF f).bytes.length = f.bytes.length := rfl
  rw [hl2] at ht
  have hu := h.used
  refine ⟨h.turn hf (f' := syncF f) rfl rfl rfl rfl ?_ (ho.mono fun k _ hk => .inr (.inl hk)) ⟨?_, ?_, Nat.le_refl _, fi.name⟩ (fun k hk => .inl hk) h.room ⟨?_, h.used.2⟩ h.left, ho, ?_⟩
  · exact h.box.far (p := ⟨f.blk, 1, none⟩) (fun e => (a2 f hf).1 e.symm) _
  · exact fi.box.set 1 _
  · exact own_off fi.row ho n2
  · show (total (repl f (syncF f) d.F) : Int) ≤ d.used
    omega
  · intro k hk
    rcases hk with hk | hk | ⟨g, hg, hk⟩
    · exact .inl hk
    · exact .inr (.inl hk)
    · have hg' : g ∈ repl f (syncF f) d.F := hg
      unfold repl at hg'
      obtain ⟨g0, hg0, rfl⟩ := List.mem_map.1 hg'
      split at hk
      · exact .inr (.inr ⟨f, hf, hk⟩)
      · exact .inr (.inr ⟨g0, hg0, hk⟩)
theorem sync_some (p : Nat) (d : DS) (n : ByteArray) (hn : n.size ≤ maxLen) (W : World) (h : Rep W p d) (hd : upB d = true) (f : DF) (hf : fileOf d.F n.data.toList = some f) :
    Calls Try.prog 16 #[dp p, .string n] W (Gives W p d (.int .i64 0) fun d' => d' = chg (syncD d f)) := by
  have hu := find_some p d n hn W h hd f hf
  have hmem := (file_in hf).1
  have fi := h.files f hmem
  have x0 : W.cell? ⟨f.blk, 0, none⟩ = some f.v := (fi.box.cell 0).trans rfl
  have x1 : W.cell? ⟨f.blk, 1, none⟩ = some (.int .i64 (f.safe : Int)) := (fi.box.cell 1).trans rfl
  have x2 : W.frozen? ⟨f.blk, 1, none⟩ = false := fi.box.frozen 1
  obtain ⟨ao, cap, hv⟩ : ∃ ao cap, f.v = .slice ao f.bytes.length cap := by
    rcases fi.row.2 with ⟨hv, h0⟩ | ⟨g, cap, cur, hv, _⟩
    · exact ⟨_, _, by rw [h0]; exact hv⟩
    · exact ⟨_, _, hv⟩
  rw [hv] at x0
  obtain ⟨R3, o3, f3⟩ := sync_rep h hmem
  have hch := changed_c p _ _ R3 hd
  have O3 := Lib.hid o3
  have F3 := Lib.hid f3
  clear R3 o3 f3 h hd hf fi hv
  unfold dp at *
  go_enter Try.func16, Try.ntmps16
  go_wp2_with fail
  (with_reducible refine hu.mono ?_)
  rintro en w1 ⟨rfl, hw⟩
  have hw' := hw.symm
  subst hw'
  go_wp2_with fail
  (with_reducible refine hch.mono ?_)
  rintro en w4 ⟨rfl, R4, o4⟩
  go_wp2
  go_ret
  refine ⟨rfl, _, R4, rfl, (O3.out.mono fun k _ hk => ?_).trans o4 fun k _ hk => .inl hk, fun k hk => .inl (F3.out k hk)⟩
  exact .inr (.inr ⟨f, hmem, .inl hk⟩)
end Go.Proofs.Ytpdimmkacjilgaa
