/- The disk's small calls: what each leaves. No condition. -/
import Derived.Test.YtpdimmkacjilgaaDkRep
import Derived.Lib.Hide
namespace Go.Proofs.Ytpdimmkacjilgaa
open Go.RowKit Go.Maps Go.ChangeMaps
set_option linter.unusedVariables false
def dp (p : Nat) : Value := .pointer (some ⟨p, 0, none⟩)
def upB (d : DS) : Bool := !d.fused || decide (0 < d.left)
/-- What stands ahead of all that is done to files. -/
def rdyI (d : DS) : Int := if upB d then 0 else 7
theorem new_bad (n : Int) (h0 : -9223372036854775808 ≤ n) (h1 : n ≤ 9223372036854775807) (h : n < 1 ∨ 4194304 < n) (W : World) :
    Calls Try.prog 9 #[.int .i64 n] W (fun e w' => e = .returned (.tuple #[.pointer none, .int .i64 1]) ∧ w' = W) := by
  by_cases hn : n < 1
  · go_enter Try.func9, Try.ntmps9
    go_wp2
    go_ret2
    exact ⟨rfl, rfl⟩
  · have hn2 : 4194304 < n := by omega
    go_enter Try.func9, Try.ntmps9
    go_wp2
    go_ret2
    exact ⟨rfl, rfl⟩
def newD (n : Int) : DS := ⟨n, 0, none, false, 0, []⟩
theorem new_rep (n : Int) (h : 1 ≤ n ∧ n ≤ 4194304) (W : World) : Rep (W.alloc (.cells (dkC (newD n)) 59)) W.heap.size (newD n) :=
  ⟨Box.new _ _ _, .inl ⟨rfl, rfl⟩, fun f hf => (by cases hf), .nil, .nil, .nil, h, ⟨by show (0 : Int) ≤ 0; omega, by show (0 : Int) ≤ n; omega⟩, by show (0 : Int) ≤ 0 ∧ (0 : Int) ≤ _; omega⟩
theorem new_good (n : Int) (h : 1 ≤ n ∧ n ≤ 4194304) (W : World) :
    Calls Try.prog 9 #[.int .i64 n] W (fun e w' => e = .returned (.tuple #[dp W.heap.size, .int .i64 0]) ∧ w' = W.alloc (.cells (dkC (newD n)) 59)) := by
  obtain ⟨h0, h1⟩ := h
  go_enter Try.func9, Try.ntmps9
  go_wp2
  go_ret2
  exact ⟨rfl, rfl⟩
/-- What a call that changes nothing hands back. -/
def Tells (W : World) (v : Value) (e : Ending) (w' : World) : Prop := e = .returned v ∧ w' = W
theorem up_c (p : Nat) (d : DS) (W : World) (h : Rep W p d) : Calls Try.prog 24 #[dp p] W (Tells W (.bool (upB d))) := by
  obtain ⟨y0, y1, y2, y3, y4⟩ := h.at
  clear h
  obtain ⟨room, used, map, fused, left, F⟩ := d
  unfold upB dp
  simp only at *
  go_enter Try.func24, Try.ntmps24
  go_wp2
  all_goals
    go_ret
    refine ⟨?_, rfl⟩
    simp_all
theorem up_nil (W : World) : Calls Try.prog 24 #[.pointer none] W (Tells W (.bool false)) := by
  go_enter Try.func24, Try.ntmps24
  go_wp2
  go_ret
  exact ⟨rfl, rfl⟩
theorem ready_nil (W : World) : Calls Try.prog 41 #[.pointer none] W (Tells W (.int .i64 1)) := by
  go_enter Try.func41, Try.ntmps41
  go_wp2
  go_ret
  exact ⟨rfl, rfl⟩
theorem ready_c (p : Nat) (d : DS) (W : World) (h : Rep W p d) : Calls Try.prog 41 #[dp p] W (Tells W (.int .i64 (rdyI d))) := by
  have hu := up_c p d W h
  clear h
  unfold rdyI
  unfold dp at *
  cases hb : upB d with
  | false =>
    rw [hb] at hu
    go_enter Try.func41, Try.ntmps41
    go_wp2_with ((with_reducible refine hu.mono ?_); rintro en w1 ⟨rfl, rfl⟩)
    go_ret
    exact ⟨rfl, rfl⟩
  | true =>
    rw [hb] at hu
    go_enter Try.func41, Try.ntmps41
    go_wp2_with ((with_reducible refine hu.mono ?_); rintro en w1 ⟨rfl, rfl⟩)
    go_ret
    exact ⟨rfl, rfl⟩
def nameB (n : ByteArray) : Bool := decide (1 ≤ n.size) && decide (n.size ≤ 40)
theorem nameable_c (n : ByteArray) (hn : n.size ≤ 140737488351232) (W : World) : Calls Try.prog 42 #[.string n] W (Tells W (.bool (nameB n))) := by
  unfold nameB
  by_cases h1 : 1 ≤ n.size
  · by_cases h2 : n.size ≤ 40
    · go_enter Try.func42, Try.ntmps42
      go_wp2
      go_ret
      refine ⟨?_, rfl⟩
      simp_all <;> omega
    · go_enter Try.func42, Try.ntmps42
      go_wp2
      go_ret
      refine ⟨?_, rfl⟩
      simp_all <;> omega
  · go_enter Try.func42, Try.ntmps42
    go_wp2
    go_ret
    refine ⟨?_, rfl⟩
    simp_all
theorem find_nil (n : ByteArray) (W : World) : Calls Try.prog 38 #[.pointer none, .string n] W (Tells W (.tuple #[.pointer none, .int .i64 1])) := by
  have hu := ready_nil W
  go_enter Try.func38, Try.ntmps38
  go_wp2_with ((with_reducible refine hu.mono ?_); rintro en w1 ⟨rfl, rfl⟩)
  go_ret2
  exact ⟨rfl, rfl⟩
theorem find_down (p : Nat) (d : DS) (n : ByteArray) (W : World) (h : Rep W p d) (hd : upB d = false) : Calls Try.prog 38 #[dp p, .string n] W (Tells W (.tuple #[.pointer none, .int .i64 7])) := by
  have hu := ready_c p d W h
  unfold rdyI at hu
  rw [hd] at hu
  simp only [Bool.false_eq_true, if_false] at hu
  clear h hd
  unfold dp at *
  go_enter Try.func38, Try.ntmps38
  go_wp2_with ((with_reducible refine hu.mono ?_); rintro en w1 ⟨rfl, rfl⟩)
  go_ret2
  exact ⟨rfl, rfl⟩
theorem find_none (p : Nat) (d : DS) (n : ByteArray) (hn : n.size ≤ maxLen) (W : World) (h : Rep W p d) (hd : upB d = true) (hf : fileOf d.F n.data.toList = none) : Calls Try.prog 38 #[dp p, .string n] W (Tells W (.tuple #[.pointer none, .int .i64 6])) := by
  have hu := ready_c p d W h
  have hl := look_run h n hn
  unfold ptrOf at hl
  rw [hf] at hl
  simp only at hl
  unfold rdyI at hu
  rw [hd] at hu
  simp only [if_true] at hu
  obtain ⟨y0, y1, y2, y3, y4⟩ := h.at
  clear h hd hf
  unfold dp at *
  go_enter Try.func38, Try.ntmps38
  go_wp2_with ((with_reducible refine hu.mono ?_); rintro en w1 ⟨rfl, rfl⟩)
  go_ret2
  exact ⟨rfl, rfl⟩
theorem find_some (p : Nat) (d : DS) (n : ByteArray) (hn : n.size ≤ maxLen) (W : World) (h : Rep W p d) (hd : upB d = true) (f : DF) (hf : fileOf d.F n.data.toList = some f) : Calls Try.prog 38 #[dp p, .string n] W (Tells W (.tuple #[dp f.blk, .int .i64 0])) := by
  have hu := ready_c p d W h
  have hl := look_run h n hn
  unfold ptrOf at hl
  rw [hf] at hl
  simp only at hl
  unfold rdyI at hu
  rw [hd] at hu
  simp only [if_true] at hu
  obtain ⟨y0, y1, y2, y3, y4⟩ := h.at
  clear h hd hf
  unfold dp at *
  go_enter Try.func38, Try.ntmps38
  go_wp2_with ((with_reducible refine hu.mono ?_); rintro en w1 ⟨rfl, rfl⟩)
  go_ret2
  exact ⟨rfl, rfl⟩
/-- The disk's own block is none of its other ones. -/
theorem Rep.apart {w : World} {p : Nat} {d : DS} (h : Rep w p d) : (∀ m, d.map = some m → m ≠ p) ∧ ∀ f ∈ d.F, f.blk ≠ p ∧ ∀ k, f.v.ownBlock = some k → k ≠ p := by
  refine ⟨fun m hm e => ?_, fun f hf => ⟨fun e => ?_, fun k hk e => ?_⟩⟩
  · rcases h.map with ⟨h1, _⟩ | ⟨m', h1, es, clock, hb, _⟩
    · rw [h1] at hm; cases hm
    · have : m' = m := by rw [h1] at hm; injection hm
      subst this
      subst e
      have := h.box
      unfold Box at this
      rw [this] at hb
      cases hb
  · have h1 := (h.files f hf).box
    have h2 := h.box
    unfold Box at h1 h2
    rw [e, h2] at h1
    injection h1 with h1
    injection h1 with _ h1 _
    exact absurd h1 (by decide)
  · exact own_ne (h.files f hf).row h.box (by decide) k hk e
/-- Numbers of the disk's block alone have turned. -/
theorem Rep.scal {w w' : World} {p : Nat} {d d' : DS} (h : Rep w p d) (hbox : Box w' p 59 (dkC d')) (ho : Off (· = p) w w') (hm : d'.map = d.map) (hF : d'.F = d.F)
    (hr : 1 ≤ d'.room ∧ d'.room ≤ 4194304) (hu : (total d'.F : Int) ≤ d'.used ∧ d'.used ≤ d'.room) (hl : 0 ≤ d'.left ∧ d'.left ≤ 9223372036854775807) : Rep w' p d' := by
  obtain ⟨a1, a2⟩ := h.apart
  refine ⟨hbox, ?_, ?_, by rw [hF]; exact h.blks, by rw [hF]; exact h.rows, by rw [hF]; exact h.sorted, hr, hu, hl⟩
  · rw [hm, hF]
    rcases h.map with h1 | ⟨m, h1, h2⟩
    · exact .inl h1
    · exact .inr ⟨m, h1, map_off h2 ho (a1 m h1)⟩
  · intro f hf
    rw [hF] at hf
    exact (h.files f hf).off ho (a2 f hf).1 (a2 f hf).2
def chg (d : DS) : DS := { d with left := if d.fused = true then d.left - 1 else d.left }
/-- What a call leaves that changes the disk's own numbers alone. -/
def Turns (W : World) (p : Nat) (d : DS) (v : Value) (e : Ending) (w' : World) : Prop := e = .returned v ∧ Rep w' p d ∧ Off (· = p) W w'
theorem changed_c (p : Nat) (d : DS) (W : World) (h : Rep W p d) (hu : upB d = true) : Calls Try.prog 43 #[dp p] W (Turns W p (chg d) (.int .i64 0)) := by
  obtain ⟨y0, y1, y2, y3, y4⟩ := h.at
  have z4 := h.box.frozen 4
  have hl := h.left
  have hr := h.room
  have hu2 := h.used
  cases hfu : d.fused with
  | false =>
    have e : chg d = d := by cases d; simp only at hfu; subst hfu; rfl
    rw [e]
    rw [hfu] at y3
    unfold dp
    have R0 := Lib.hid h
    clear h hu e hu2
    go_enter Try.func43, Try.ntmps43
    go_wp2
    go_ret
    exact ⟨rfl, R0.out, Off.refl _ _⟩
  | true =>
    have hlp : 0 < d.left := by unfold upB at hu; rw [hfu] at hu; simpa using hu
    have hbx : Box (W.setCell ⟨p, 4, none⟩ (.int .i64 (d.left - 1))) p 59 (dkC (chg d)) := by
      have := h.box.set 4 (.int .i64 (d.left - 1))
      have e : dkC (chg d) = (dkC d).setIfInBounds 4 (.int .i64 (d.left - 1)) := by cases d; simp only at hfu; subst hfu; rfl
      rw [e]
      exact this
    have hnew : Rep (W.setCell ⟨p, 4, none⟩ (.int .i64 (d.left - 1))) p (chg d) := h.scal hbx (Off.one W ⟨p, 4, none⟩ _) rfl rfl hr hu2 (by unfold chg; rw [hfu]; simp only [if_true]; omega)
    have R0 := Lib.hid hnew
    rw [hfu] at y3
    unfold dp
    clear h hu hbx hnew hu2
    generalize hcd : chg d = d' at *
    clear hcd
    go_enter Try.func43, Try.ntmps43
    go_wp2
    go_ret
    exact ⟨rfl, R0.out, Off.one W ⟨p, 4, none⟩ _⟩
theorem used_c (p : Nat) (d : DS) (W : World) (h : Rep W p d) : Calls Try.prog 22 #[dp p] W (Tells W (.int .i64 d.used)) := by
  obtain ⟨y0, y1, y2, y3, y4⟩ := h.at
  unfold dp
  clear h
  go_enter Try.func22, Try.ntmps22
  go_wp2
  go_ret
  exact ⟨rfl, rfl⟩
theorem room_c (p : Nat) (d : DS) (W : World) (h : Rep W p d) : Calls Try.prog 23 #[dp p] W (Tells W (.int .i64 d.room)) := by
  obtain ⟨y0, y1, y2, y3, y4⟩ := h.at
  unfold dp
  clear h
  go_enter Try.func23, Try.ntmps23
  go_wp2
  go_ret
  exact ⟨rfl, rfl⟩
end Go.Proofs.Ytpdimmkacjilgaa
