/- Merged texts. What each proves is told at its head. -/
import Derived.Test.YtjnphajkoopkgaaGreatDoorNum
import Derived.Test.YtjnphajkoopkgaaGreatDoorMem
import Derived.Maps.Own
import Derived.Maps.OwnSet
import Derived.StringKeys
import Derived.KernelRfl
import Derived.WalkKit
import Derived.ProofKit
import Derived.Lib.Hide
import Derived.Test.YtjnphajkoopkgaaGreatDoorClone
import Derived.Deep.RegionWith
import Derived.Deep.RegionHeld3
import Derived.Deep.DrawnRows
import Derived.Lib.AppendStr
/- A disk in memory: its block, its map, a block and a row of bytes for each file. Plain words. No condition. -/
namespace Go.Proofs.YtjnphajkoopkgaaGreatDoor.Dk
open Go.RowKit Go.Maps Go.ChangeMaps Go.WideMaps
set_option linter.unusedVariables false
/-- A file: its name, its block, its slice, its bytes, how many of these are safe. -/
structure DF where
  name : List UInt8
  blk : Nat
  v : Value
  bytes : List UInt8
  safe : Nat
/-- A pointer to a file reads as its block's number. -/
def fileTok (v : Value) : Option (DataW Unit × List MemPlace) :=
  match v with
  | .pointer none => some (.lit (.int .i64 (-1)), [])
  | .pointer (some ⟨b, 0, none⟩) => some (.lit (.int .i64 (b : Int)), [])
  | _ => none
def entry (f : DF) : Lit × DataW Unit := (.string f.name, .lit (.int .i64 (f.blk : Int)))
def mapD (F : List DF) : DataW Unit := .map (F.map entry)
/-- What a disk is. -/
structure DS where
  room : Int
  used : Int
  map : Option Nat
  fused : Bool
  left : Int
  F : List DF
def dkC (d : DS) : Array Value := #[.int .i64 d.room, .int .i64 d.used, .map d.map, .bool d.fused, .int .i64 d.left]
/-- Bytes as cells. -/
def byteCells (l : List UInt8) : List Value := l.map fun b => Value.int .u8 (b.toNat : Int)
def total (F : List DF) : Nat := (F.map fun f => f.bytes.length).sum
structure FileIn (w : World) (f : DF) : Prop where
  box : Box w f.blk 108 #[f.v, .int .i64 (f.safe : Int)]
  row : w.ownsRow 0 5 1 f.v f.bytes.length (byteCells f.bytes)
  safe : f.safe ≤ f.bytes.length
  name : 1 ≤ f.name.length ∧ f.name.length ≤ 40
structure Rep (w : World) (p : Nat) (d : DS) : Prop where
  box : Box w p 68 (dkC d)
  map : (d.map = none ∧ d.F = []) ∨ ∃ m, d.map = some m ∧ w.ownsMap Tryz.prog 9 fileTok m d.F.length (mapD d.F)
  files : ∀ f ∈ d.F, FileIn w f
  blks : d.F.Pairwise fun f g => f.blk ≠ g.blk
  rows : d.F.Pairwise fun f g => ∀ k, f.v.ownBlock = some k → g.v.ownBlock ≠ some k
  sorted : d.F.Pairwise fun f g => bytesBefore f.name g.name = true
  room : 1 ≤ d.room ∧ d.room ≤ 4194304
  used : (total d.F : Int) ≤ d.used ∧ d.used ≤ d.room
  left : 0 ≤ d.left ∧ d.left ≤ 9223372036854775807
/-- The blocks of a disk. -/
def Foot (p : Nat) (d : DS) (k : Nat) : Prop := k = p ∨ d.map = some k ∨ ∃ f ∈ d.F, k = f.blk ∨ f.v.ownBlock = some k
section
variable {w w' : World} {p : Nat} {d : DS} {S : Nat → Prop}
theorem map_off {k : TypeId} {R : Value → Option (DataW Unit × List MemPlace)} {b n : Nat} {D : DataW Unit} (h : w.ownsMap Tryz.prog k R b n D) (ho : Off S w w') (hS : ¬ S b) : w'.ownsMap Tryz.prog k R b n D := by
  have hlt := h.lt
  obtain ⟨es, clock, hb, F, hs, hD⟩ := h
  exact ⟨es, clock, (ho.block b hlt hS).trans hb, F, hs, hD⟩
theorem FileIn.off {f : DF} (h : FileIn w f) (ho : Off S w w') (h1 : ¬ S f.blk) (h2 : ∀ k, f.v.ownBlock = some k → ¬ S k) : FileIn w' f :=
  ⟨h.box.off ho h1, own_off h.row ho h2, h.safe, h.name⟩
/-- A disk stays while others' blocks are written. -/
theorem Rep.off (h : Rep w p d) (ho : Off S w w') (hS : ∀ k, Foot p d k → ¬ S k) : Rep w' p d := by
  refine ⟨h.box.off ho (hS p (.inl rfl)), ?_, fun f hf => (h.files f hf).off ho (hS _ (.inr (.inr ⟨f, hf, .inl rfl⟩))) (fun k hk => hS k (.inr (.inr ⟨f, hf, .inr hk⟩))), h.blks, h.rows, h.sorted, h.room, h.used, h.left⟩
  rcases h.map with h1 | ⟨m, h1, h2⟩
  · exact .inl h1
  · exact .inr ⟨m, h1, map_off h2 ho (hS m (.inr (.inl h1)))⟩
theorem Rep.later (h : Rep w p d) (hb : Below w.heap.size w w') : Rep w' p d := h.off (Off.of_below (fun _ => False) hb) (fun _ _ x => x)
theorem Rep.at (h : Rep w p d) : w.cell? ⟨p, 0, none⟩ = some (.int .i64 d.room) ∧ w.cell? ⟨p, 1, none⟩ = some (.int .i64 d.used) ∧ w.cell? ⟨p, 2, none⟩ = some (.map d.map) ∧ w.cell? ⟨p, 3, none⟩ = some (.bool d.fused) ∧ w.cell? ⟨p, 4, none⟩ = some (.int .i64 d.left) :=
  ⟨(h.box.cell 0).trans rfl, (h.box.cell 1).trans rfl, (h.box.cell 2).trans rfl, (h.box.cell 3).trans rfl, (h.box.cell 4).trans rfl⟩
end
/-- The file of a name. -/
def fileOf (F : List DF) (n : List UInt8) : Option DF := F.find? fun f => f.name == n
theorem mapD_at (F : List DF) (n : List UInt8) (z : DataW Unit) : (mapD F).atKey (.string n) z = match fileOf F n with | some f => .lit (.int .i64 (f.blk : Int)) | none => z := by
  unfold mapD DataW.atKey fileOf
  simp only [List.find?_map]
  have e : ((fun p : Lit × DataW Unit => p.1.sameKey (.string n)) ∘ entry) = fun f : DF => f.name == n := by
    funext f
    rfl
  rw [e]
  cases F.find? fun f => f.name == n <;> rfl
theorem fileTok_inv {v : Value} {b : Nat} {ps : List MemPlace} (h : fileTok v = some (.lit (.int .i64 (b : Int)), ps)) : v = .pointer (some ⟨b, 0, none⟩) := by
  unfold fileTok at h
  split at h
  · simp at h
  · rename_i b'
    simp at h
    have : b' = b := by omega
    subst this
    rfl
  · cases h
theorem fileTok_nil {v : Value} {ps : List MemPlace} (h : fileTok v = some (.lit (.int .i64 (-1)), ps)) : v = .pointer none := by
  unfold fileTok at h
  split at h
  · rfl
  · simp at h
  · cases h
theorem zeroFile (w : World) : (zeroValue 105).run Tryz.prog w = .ok (.pointer none) w := by kernel_rfl
/-- The pointer that a lookup gives. -/
def ptrOf (F : List DF) (n : List UInt8) : Value := match fileOf F n with | some f => .pointer (some ⟨f.blk, 0, none⟩) | none => .pointer none
theorem look_run {w : World} {p : Nat} {d : DS} (h : Rep w p d) (n : ByteArray) (hn : n.size ≤ maxLen) : (Instr.lookup 66 (.map d.map) (.string n) false).run Tryz.prog w = .ok (ptrOf d.F n.data.toList) w := by
  rcases h.map with ⟨h1, h2⟩ | ⟨m, h1, h2⟩
  · rw [h1, h2]
    have := look_nil (w := w) false (string_keyed Tryz.underlying9) Tryz.underlying66 (zeroFile _) (keyOf_string_mk Tryz.underlying9 hn)
    rw [show ptrOf [] n.data.toList = .pointer none from rfl]
    simpa using this
  · rw [h1]
    obtain ⟨v, ps, hr, hv⟩ := h2.lookup (string_keyed Tryz.underlying9) Tryz.underlying66 (z := .pointer none) (zd := .lit (.int .i64 (-1))) (zp := []) (zeroFile _) rfl (keyOf_string_mk Tryz.underlying9 hn)
    rw [hr, mapD_at] at *
    unfold ptrOf
    cases hf : fileOf d.F n.data.toList with
    | none => rw [hf] at hv; rw [fileTok_nil hv]
    | some f => rw [hf] at hv; rw [fileTok_inv hv]
end Go.Proofs.YtjnphajkoopkgaaGreatDoor.Dk
/- The disk's small calls: what each leaves. No condition. -/
namespace Go.Proofs.YtjnphajkoopkgaaGreatDoor.Dk
open Go.RowKit Go.Maps Go.ChangeMaps
set_option linter.unusedVariables false
def dp (p : Nat) : Value := .pointer (some ⟨p, 0, none⟩)
def upB (d : DS) : Bool := !d.fused || decide (0 < d.left)
/-- What stands ahead of all that is done to files. -/
def rdyI (d : DS) : Int := if upB d then 0 else 7
theorem new_bad (n : Int) (h0 : -9223372036854775808 ≤ n) (h1 : n ≤ 9223372036854775807) (h : n < 1 ∨ 4194304 < n) (W : World) :
    Calls Tryz.prog 7 #[.int .i64 n] W (fun e w' => e = .returned (.tuple #[.pointer none, .int .i64 1]) ∧ w' = W) := by
  by_cases hn : n < 1
  · go_enter Tryz.func7, Tryz.ntmps7
    go_wp2
    go_ret2
    exact ⟨rfl, rfl⟩
  · have hn2 : 4194304 < n := by omega
    go_enter Tryz.func7, Tryz.ntmps7
    go_wp2
    go_ret2
    exact ⟨rfl, rfl⟩
def newD (n : Int) : DS := ⟨n, 0, none, false, 0, []⟩
theorem new_rep (n : Int) (h : 1 ≤ n ∧ n ≤ 4194304) (W : World) : Rep (W.alloc (.cells (dkC (newD n)) 68)) W.heap.size (newD n) :=
  ⟨Box.new _ _ _, .inl ⟨rfl, rfl⟩, fun f hf => (by cases hf), .nil, .nil, .nil, h, ⟨by show (0 : Int) ≤ 0; omega, by show (0 : Int) ≤ n; omega⟩, by show (0 : Int) ≤ 0 ∧ (0 : Int) ≤ _; omega⟩
theorem new_good (n : Int) (h : 1 ≤ n ∧ n ≤ 4194304) (W : World) :
    Calls Tryz.prog 7 #[.int .i64 n] W (fun e w' => e = .returned (.tuple #[dp W.heap.size, .int .i64 0]) ∧ w' = W.alloc (.cells (dkC (newD n)) 68)) := by
  obtain ⟨h0, h1⟩ := h
  go_enter Tryz.func7, Tryz.ntmps7
  go_wp2
  go_ret2
  exact ⟨rfl, rfl⟩
/-- What a call that changes nothing hands back. -/
def Tells (W : World) (v : Value) (e : Ending) (w' : World) : Prop := e = .returned v ∧ w' = W
theorem up_c (p : Nat) (d : DS) (W : World) (h : Rep W p d) : Calls Tryz.prog 100 #[dp p] W (Tells W (.bool (upB d))) := by
  obtain ⟨y0, y1, y2, y3, y4⟩ := h.at
  clear h
  obtain ⟨room, used, map, fused, left, F⟩ := d
  unfold upB dp
  simp only at *
  go_enter Tryz.func100, Tryz.ntmps100
  go_wp2
  all_goals
    go_ret
    refine ⟨?_, rfl⟩
    simp_all
theorem ready_nil (W : World) : Calls Tryz.prog 65 #[.pointer none] W (Tells W (.int .i64 1)) := by
  go_enter Tryz.func65, Tryz.ntmps65
  go_wp2
  go_ret
  exact ⟨rfl, rfl⟩
theorem ready_c (p : Nat) (d : DS) (W : World) (h : Rep W p d) : Calls Tryz.prog 65 #[dp p] W (Tells W (.int .i64 (rdyI d))) := by
  have hu := up_c p d W h
  clear h
  unfold rdyI
  unfold dp at *
  cases hb : upB d with
  | false =>
    rw [hb] at hu
    go_enter Tryz.func65, Tryz.ntmps65
    go_wp2_with ((with_reducible refine hu.mono ?_); rintro en w1 ⟨rfl, rfl⟩)
    go_ret
    exact ⟨rfl, rfl⟩
  | true =>
    rw [hb] at hu
    go_enter Tryz.func65, Tryz.ntmps65
    go_wp2_with ((with_reducible refine hu.mono ?_); rintro en w1 ⟨rfl, rfl⟩)
    go_ret
    exact ⟨rfl, rfl⟩
def nameB (n : ByteArray) : Bool := decide (1 ≤ n.size) && decide (n.size ≤ 40)
theorem nameable_c (n : ByteArray) (hn : n.size ≤ 140737488351232) (W : World) : Calls Tryz.prog 66 #[.string n] W (Tells W (.bool (nameB n))) := by
  unfold nameB
  by_cases h1 : 1 ≤ n.size
  · by_cases h2 : n.size ≤ 40
    · go_enter Tryz.func66, Tryz.ntmps66
      go_wp2
      go_ret
      refine ⟨?_, rfl⟩
      simp_all <;> omega
    · go_enter Tryz.func66, Tryz.ntmps66
      go_wp2
      go_ret
      refine ⟨?_, rfl⟩
      simp_all <;> omega
  · go_enter Tryz.func66, Tryz.ntmps66
    go_wp2
    go_ret
    refine ⟨?_, rfl⟩
    simp_all
theorem find_nil (n : ByteArray) (W : World) : Calls Tryz.prog 56 #[.pointer none, .string n] W (Tells W (.tuple #[.pointer none, .int .i64 1])) := by
  have hu := ready_nil W
  go_enter Tryz.func56, Tryz.ntmps56
  go_wp2_with ((with_reducible refine hu.mono ?_); rintro en w1 ⟨rfl, rfl⟩)
  go_ret2
  exact ⟨rfl, rfl⟩
theorem find_down (p : Nat) (d : DS) (n : ByteArray) (W : World) (h : Rep W p d) (hd : upB d = false) : Calls Tryz.prog 56 #[dp p, .string n] W (Tells W (.tuple #[.pointer none, .int .i64 7])) := by
  have hu := ready_c p d W h
  unfold rdyI at hu
  rw [hd] at hu
  simp only [Bool.false_eq_true, if_false] at hu
  clear h hd
  unfold dp at *
  go_enter Tryz.func56, Tryz.ntmps56
  go_wp2_with ((with_reducible refine hu.mono ?_); rintro en w1 ⟨rfl, rfl⟩)
  go_ret2
  exact ⟨rfl, rfl⟩
theorem find_none (p : Nat) (d : DS) (n : ByteArray) (hn : n.size ≤ maxLen) (W : World) (h : Rep W p d) (hd : upB d = true) (hf : fileOf d.F n.data.toList = none) : Calls Tryz.prog 56 #[dp p, .string n] W (Tells W (.tuple #[.pointer none, .int .i64 6])) := by
  have hu := ready_c p d W h
  have hl := look_run h n hn
  unfold ptrOf at hl
  rw [hf] at hl
  simp only at hl
  unfold rdyI at hu
  rw [hd] at hu
  simp only [if_true] at hu
  obtain ⟨y0, y1, y2, y3, y4⟩ := h.at
  clear h hd hf
  unfold dp at *
  go_enter Tryz.func56, Tryz.ntmps56
  go_wp2_with ((with_reducible refine hu.mono ?_); rintro en w1 ⟨rfl, rfl⟩)
  go_ret2
  exact ⟨rfl, rfl⟩
theorem find_some (p : Nat) (d : DS) (n : ByteArray) (hn : n.size ≤ maxLen) (W : World) (h : Rep W p d) (hd : upB d = true) (f : DF) (hf : fileOf d.F n.data.toList = some f) : Calls Tryz.prog 56 #[dp p, .string n] W (Tells W (.tuple #[dp f.blk, .int .i64 0])) := by
  have hu := ready_c p d W h
  have hl := look_run h n hn
  unfold ptrOf at hl
  rw [hf] at hl
  simp only at hl
  unfold rdyI at hu
  rw [hd] at hu
  simp only [if_true] at hu
  obtain ⟨y0, y1, y2, y3, y4⟩ := h.at
  clear h hd hf
  unfold dp at *
  go_enter Tryz.func56, Tryz.ntmps56
  go_wp2_with ((with_reducible refine hu.mono ?_); rintro en w1 ⟨rfl, rfl⟩)
  go_ret2
  exact ⟨rfl, rfl⟩
/-- The disk's own block is none of its other ones. -/
theorem Rep.apart {w : World} {p : Nat} {d : DS} (h : Rep w p d) : (∀ m, d.map = some m → m ≠ p) ∧ ∀ f ∈ d.F, f.blk ≠ p ∧ ∀ k, f.v.ownBlock = some k → k ≠ p := by
  refine ⟨fun m hm e => ?_, fun f hf => ⟨fun e => ?_, fun k hk e => ?_⟩⟩
  · rcases h.map with ⟨h1, _⟩ | ⟨m', h1, es, clock, hb, _⟩
    · rw [h1] at hm; cases hm
    · have : m' = m := by rw [h1] at hm; injection hm
      subst this
      subst e
      have := h.box
      unfold Box at this
      rw [this] at hb
      cases hb
  · have h1 := (h.files f hf).box
    have h2 := h.box
    unfold Box at h1 h2
    rw [e, h2] at h1
    injection h1 with h1
    injection h1 with _ h1 _
    exact absurd h1 (by decide)
  · exact own_ne (h.files f hf).row h.box (by decide) k hk e
/-- Numbers of the disk's block alone have turned. -/
theorem Rep.scal {w w' : World} {p : Nat} {d d' : DS} (h : Rep w p d) (hbox : Box w' p 68 (dkC d')) (ho : Off (· = p) w w') (hm : d'.map = d.map) (hF : d'.F = d.F)
    (hr : 1 ≤ d'.room ∧ d'.room ≤ 4194304) (hu : (total d'.F : Int) ≤ d'.used ∧ d'.used ≤ d'.room) (hl : 0 ≤ d'.left ∧ d'.left ≤ 9223372036854775807) : Rep w' p d' := by
  obtain ⟨a1, a2⟩ := h.apart
  refine ⟨hbox, ?_, ?_, by rw [hF]; exact h.blks, by rw [hF]; exact h.rows, by rw [hF]; exact h.sorted, hr, hu, hl⟩
  · rw [hm, hF]
    rcases h.map with h1 | ⟨m, h1, h2⟩
    · exact .inl h1
    · exact .inr ⟨m, h1, map_off h2 ho (a1 m h1)⟩
  · intro f hf
    rw [hF] at hf
    exact (h.files f hf).off ho (a2 f hf).1 (a2 f hf).2
def chg (d : DS) : DS := { d with left := if d.fused = true then d.left - 1 else d.left }
/-- What a call leaves that changes the disk's own numbers alone. -/
def Turns (W : World) (p : Nat) (d : DS) (v : Value) (e : Ending) (w' : World) : Prop := e = .returned v ∧ Rep w' p d ∧ Off (· = p) W w'
theorem changed_c (p : Nat) (d : DS) (W : World) (h : Rep W p d) (hu : upB d = true) : Calls Tryz.prog 59 #[dp p] W (Turns W p (chg d) (.int .i64 0)) := by
  obtain ⟨y0, y1, y2, y3, y4⟩ := h.at
  have z4 := h.box.frozen 4
  have hl := h.left
  have hr := h.room
  have hu2 := h.used
  cases hfu : d.fused with
  | false =>
    have e : chg d = d := by cases d; simp only at hfu; subst hfu; rfl
    rw [e]
    rw [hfu] at y3
    unfold dp
    have R0 := Lib.hid h
    clear h hu e hu2
    go_enter Tryz.func59, Tryz.ntmps59
    go_wp2
    go_ret
    exact ⟨rfl, R0.out, Off.refl _ _⟩
  | true =>
    have hlp : 0 < d.left := by unfold upB at hu; rw [hfu] at hu; simpa using hu
    have hbx : Box (W.setCell ⟨p, 4, none⟩ (.int .i64 (d.left - 1))) p 68 (dkC (chg d)) := by
      have := h.box.set 4 (.int .i64 (d.left - 1))
      have e : dkC (chg d) = (dkC d).setIfInBounds 4 (.int .i64 (d.left - 1)) := by cases d; simp only at hfu; subst hfu; rfl
      rw [e]
      exact this
    have hnew : Rep (W.setCell ⟨p, 4, none⟩ (.int .i64 (d.left - 1))) p (chg d) := h.scal hbx (Off.one W ⟨p, 4, none⟩ _) rfl rfl hr hu2 (by unfold chg; rw [hfu]; simp only [if_true]; omega)
    have R0 := Lib.hid hnew
    rw [hfu] at y3
    unfold dp
    clear h hu hbx hnew hu2
    generalize hcd : chg d = d' at *
    clear hcd
    go_enter Tryz.func59, Tryz.ntmps59
    go_wp2
    go_ret
    exact ⟨rfl, R0.out, Off.one W ⟨p, 4, none⟩ _⟩
theorem used_c (p : Nat) (d : DS) (W : World) (h : Rep W p d) : Calls Tryz.prog 26 #[dp p] W (Tells W (.int .i64 d.used)) := by
  obtain ⟨y0, y1, y2, y3, y4⟩ := h.at
  unfold dp
  clear h
  go_enter Tryz.func26, Tryz.ntmps26
  go_wp2
  go_ret
  exact ⟨rfl, rfl⟩
end Go.Proofs.YtjnphajkoopkgaaGreatDoor.Dk
/- A file put into a disk's map. No condition. -/
namespace Go.Proofs.YtjnphajkoopkgaaGreatDoor.Dk
open Go.RowKit Go.Maps Go.ChangeMaps Go.WideMaps
set_option linter.unusedVariables false
attribute [local go_sem ↓] Go.wp_at_zero Go.wp_at_succ
theorem clone_c (s : ByteArray) (W : World) (hs : s.size ≤ 281474976710656) : Calls Tryz.prog 29 #[.string s] W (Good W (.string s)) := by
  go_enter Tryz.func29, Tryz.ntmps29
  go_wp2_with (go_at_call 57; refine (Tryz.stringslite_Clone s _ hs).mono ?_; rintro e w1 ⟨rfl, hb⟩)
  go_ret
  exact ⟨rfl, hb⟩
/-- A file in its place by its name. -/
def insF (f : DF) : List DF → List DF
  | [] => [f]
  | y :: r => if bytesBefore f.name y.name then f :: y :: r else y :: insF f r
theorem insert_entry (f : DF) : ∀ F : List DF, DataW.insert (entry f) (F.map entry) = (insF f F).map entry
  | [] => rfl
  | y :: r => by
    have ih := insert_entry f r
    show (if (entry f).1.before (entry y).1 then _ else _) = _
    unfold insF
    have e : (entry f).1.before (entry y).1 = bytesBefore f.name y.name := rfl
    rw [e]
    split
    · rfl
    · simp only [List.map_cons, ih]
theorem filter_entry (n : List UInt8) (F : List DF) : (F.map entry).filter (fun q => !q.1.sameKey (.string n)) = (F.filter fun f => !(f.name == n)).map entry := by
  rw [List.filter_map]
  rfl
theorem none_filter {F : List DF} {n : List UInt8} (h : fileOf F n = none) : (F.filter fun f => !(f.name == n)) = F := by
  rw [List.filter_eq_self]
  intro f hf
  have := List.find?_eq_none.1 h f hf
  simpa using this
theorem mapD_put (F : List DF) (f : DF) (h : fileOf F f.name = none) : (mapD F).put (.string f.name) (.lit (.int .i64 (f.blk : Int))) = mapD (insF f F) := by
  unfold mapD DataW.put
  simp only
  rw [filter_entry, none_filter h]
  exact congrArg DataW.map (insert_entry f F)
theorem map_tight {w : World} {k : TypeId} {b n : Nat} {F : List DF} (h : w.ownsMap Tryz.prog k fileTok b n (mapD F)) : w.ownsMap Tryz.prog k fileTok b F.length (mapD F) := by
  obtain ⟨es, clock, hb, Ft, hs, hD⟩ := h
  refine ⟨es, clock, hb, Ft, ?_, hD⟩
  have e : F.map entry = (es.toList.map (Go.WideElems.rg Tryz.prog k fileTok)).foldr DataW.insert [] := by
    unfold mapD at hD
    injection hD
  have := congrArg List.length e
  rw [length_sorted] at this
  simp at this
  omega
theorem map_nil (w : World) : (binOp BinOp.eql 66 (.map none) (.map none)).run Tryz.prog w = .ok (.bool true) w := by kernel_rfl
theorem map_not (m : Nat) (w : World) : (binOp BinOp.eql 66 (.map (some m)) (.map none)).run Tryz.prog w = .ok (.bool false) w := by kernel_rfl
theorem make_map (w : World) : (Instr.makeMap 66 none).run Tryz.prog w = .ok (.map (some w.heap.size)) (w.alloc (.map #[] 0)) := by
  first
    | rfl
    | exact run_makeMap _ _ 
theorem cell_later {w w' : World} {p i : Nat} {v : Value} (h : w.cell? ⟨p, i, none⟩ = some v) (hp : p < w.heap.size) (hb : Below w.heap.size w w') : w'.cell? ⟨p, i, none⟩ = some v :=
  (World.cell?_of_block (hb.block p hp)).trans h
theorem map_later {w w' : World} {g n : Nat} {D : DataW Unit} (h : w.ownsMap Tryz.prog 9 fileTok g n D) (hb : Below w.heap.size w w') : w'.ownsMap Tryz.prog 9 fileTok g n D := map_off h (Off.of_below (fun _ => False) hb) (fun x => x)
theorem box_grown {w w' : World} {p g : Nat} {t : TypeId} {cs : Array Value} (h : Box w p t cs) (hg : w.grownBy w' (some g)) (hne : p ≠ g) : Box w' p t cs :=
  (hg.block p h.lt (fun e => hne (by injection e))).trans h
theorem cell_grown {w w' : World} {p i g : Nat} {v : Value} (h : w.cell? ⟨p, i, none⟩ = some v) (hp : p < w.heap.size) (hg : w.grownBy w' (some g)) (hne : p ≠ g) : w'.cell? ⟨p, i, none⟩ = some v :=
  (World.cell?_of_block (hg.block p hp (fun e => hne (by injection e)))).trans h
/-- The store into the map, as one world's turn into another. -/
theorem upd_fun (g nn : Nat) (F : List DF) (n : ByteArray) (f : DF) (hf : f.name = n.data.toList) (hn : n.size ≤ maxLen) (hnn : nn < maxLen) (hnew : fileOf F n.data.toList = none) :
    ∃ U : World → World, (∀ w : World, w.ownsMap Tryz.prog 9 fileTok g nn (mapD F) → (Instr.mapUpdate 66 (.map (some g)) (.string n) (.pointer (some ⟨f.blk, 0, none⟩))).run Tryz.prog w = .ok () (U w)) ∧
      ∀ w : World, w.ownsMap Tryz.prog 9 fileTok g nn (mapD F) → (U w).ownsMap Tryz.prog 9 fileTok g (nn + 1) (mapD (insF f F)) ∧ w.grownBy (U w) (some g) := by
  have key : ∀ w : World, w.ownsMap Tryz.prog 9 fileTok g nn (mapD F) → ∃ w' : World, (Instr.mapUpdate 66 (.map (some g)) (.string n) (.pointer (some ⟨f.blk, 0, none⟩))).run Tryz.prog w = .ok () w' ∧ w'.ownsMap Tryz.prog 9 fileTok g (nn + 1) (mapD (insF f F)) ∧ w.grownBy w' (some g) := by
    intro w h
    obtain ⟨w', h1, h2, h3⟩ := h.update (string_keyed Tryz.underlying9) Tryz.underlying66 hnn (keyOf_string_mk Tryz.underlying9 hn) (val := .pointer (some ⟨f.blk, 0, none⟩)) (d := .lit (.int .i64 (f.blk : Int))) (ps := []) rfl
    refine ⟨w', h1, ?_, h3⟩
    rw [← hf, mapD_put F f (by rw [hf]; exact hnew)] at h2
    exact h2
  classical
  refine ⟨fun w => if h : w.ownsMap Tryz.prog 9 fileTok g nn (mapD F) then Classical.choose (key w h) else w, fun w h => ?_, fun w h => ?_⟩
  · simp only [dif_pos h]
    exact (Classical.choose_spec (key w h)).1
  · simp only [dif_pos h]
    exact (Classical.choose_spec (key w h)).2
/-- What a put leaves. -/
def Puts (W : World) (p : Nat) (d : DS) (f : DF) (e : Ending) (w' : World) : Prop :=
  e = .returned (.tuple #[]) ∧ ∃ m, w'.ownsMap Tryz.prog 9 fileTok m (d.F.length + 1) (mapD (insF f d.F)) ∧ Box w' p 68 (dkC { d with map := some m }) ∧ Off (fun k => k = p ∨ d.map = some k) W w' ∧ (d.map = some m ∨ W.heap.size ≤ m)
set_option maxHeartbeats 2000000 in
set_option maxRecDepth 100000 in
theorem put_c (p : Nat) (d : DS) (W : World) (n : ByteArray) (f : DF) (h : Rep W p d) (hf : f.name = n.data.toList) (hnew : fileOf d.F n.data.toList = none) (hlen : d.F.length ≤ 1000000) (hn : n.size ≤ 140737488351232) :
    Calls Tryz.prog 67 #[dp p, .string n, dp f.blk] W (Puts W p d f) := by
  have hc := fun w => clone_c n w (by omega)
  obtain ⟨y0, y1, y2, y3, y4⟩ := h.at
  have z2 := h.box.frozen 2
  have hbx := h.box
  have hp := hbx.lt
  have hmp := (h.apart).1
  rcases h.map with ⟨h1, h2⟩ | ⟨m, h1, h2⟩
  · rw [h1] at y2
    unfold dp
    clear h hnew
    have q1 := map_nil
    have q2 : ∀ w : World, (Instr.makeMap 66 none).run Tryz.prog w = .ok (.map (some w.heap.size)) (w.alloc (.map #[] 0)) := fun w => make_map w
    go_enter Tryz.func67, Tryz.ntmps67
    obtain ⟨U, hU, hV⟩ := upd_fun W.heap.size 0 [] n f hf (by unfold maxLen; omega) (by unfold maxLen; omega) rfl
    have V := Lib.hid hV
    clear hV
    have b0 : Box ((W.setCell ⟨p, 2, none⟩ (.map (some W.heap.size))).alloc (Obj.map #[] 0)) p 68 (dkC { d with map := some W.heap.size }) := (hbx.set 2 (.map (some W.heap.size))).alloc _
    have f0 : Off (fun k => k = p ∨ d.map = some k) W ((W.setCell ⟨p, 2, none⟩ (.map (some W.heap.size))).alloc (Obj.map #[] 0)) := ((Off.refl _ _).set (.inl (.inl rfl)) _).alloc _
    have o0 : ((W.setCell ⟨p, 2, none⟩ (.map (some W.heap.size))).alloc (Obj.map #[] 0)).ownsMap Tryz.prog 9 fileTok W.heap.size 0 (mapD []) := by
      have hh := World.ownsMap_made (W.setCell ⟨p, 2, none⟩ (.map (some W.heap.size))) Tryz.prog 9 fileTok
      rw [show (W.setCell ⟨p, 2, none⟩ (.map (some W.heap.size))).heap.size = W.heap.size by simp [World.setCell]] at hh
      exact hh
    have c0 : ((W.setCell ⟨p, 2, none⟩ (.map (some W.heap.size))).alloc (Obj.map #[] 0)).cell? ⟨p, 2, none⟩ = some (.map (some W.heap.size)) := (b0.cell 2).trans rfl
    have B0 := Lib.hid b0
    have F0 := Lib.hid f0
    have hpg : p ≠ W.heap.size := by omega
    have hp1 := b0.lt
    clear b0 f0
    go_wp2_with fail
    generalize hW1 : ((W.setCell ⟨p, 2, none⟩ (.map (some W.heap.size))).alloc (Obj.map #[] 0)) = W1 at *
    go_region_held3 (fun w => w.cell? ⟨p, 2, none⟩ = some (.map (some W.heap.size)))
      (first | exact c0 | exact cell_later (w := W1.drew) c0 hp1 (by assumption) | exact cell_grown (cell_later (w := W1.drew) c0 hp1 (by assumption)) (Nat.lt_of_lt_of_le hp1 (Below.size (w := W1.drew) (by assumption))) (V.out _ (by assumption)).2 hpg)
      (first | ((with_reducible refine (hc _).mono ?_); rintro e w5 ⟨rfl, hb5⟩; have own5 := map_later o0.drew hb5))
    all_goals
      go_end0
      obtain ⟨v1, v2⟩ := V.out _ own5
      refine ⟨rfl, W.heap.size, ?_, box_grown (Box.later (w := W1.drew) B0.out hb5) v2 hpg, ((F0.out.drew).later hb5).grown v2 (fun k e hk => ?_), .inr (Nat.le_refl _)⟩
      · rw [h2]
        exact v1
      · have : W.heap.size = k := by injection e
        omega
  · rw [h1] at y2
    unfold dp
    have hnn : d.F.length < maxLen := by unfold maxLen; omega
    have hpg : p ≠ m := fun e => hmp m h1 e.symm
    have e1 : dkC { d with map := some m } = dkC d := by rw [← h1]
    obtain ⟨U, hU, hV⟩ := upd_fun m d.F.length d.F n f hf (by unfold maxLen; omega) hnn hnew
    have V := Lib.hid hV
    have O2 := Lib.hid h1
    clear h hnew hV h1
    have q1 := map_not m
    go_enter Tryz.func67, Tryz.ntmps67
    go_wp2_with fail
    go_region_held3 (fun w => w.cell? ⟨p, 2, none⟩ = some (.map (some m)))
      (first | exact y2 | exact cell_later (w := W.drew) y2 hp (by assumption) | exact cell_grown (cell_later (w := W.drew) y2 hp (by assumption)) (Nat.lt_of_lt_of_le hp (Below.size (w := W.drew) (by assumption))) (V.out _ (by assumption)).2 hpg)
      (first | ((with_reducible refine (hc _).mono ?_); rintro e w5 ⟨rfl, hb5⟩; have own5 := map_later h2.drew hb5))
    all_goals
      go_end0
      obtain ⟨v1, v2⟩ := V.out _ own5
      refine ⟨rfl, m, v1, ?_, (((Off.refl _ _).drew).later hb5).grown v2 (fun k e hk => .inr ?_), .inl O2.out⟩
      · rw [e1]
        exact box_grown (Box.later (w := W.drew) hbx hb5) v2 hpg
      · rw [O2.out]
        exact e
end Go.Proofs.YtjnphajkoopkgaaGreatDoor.Dk
/- Bytes put behind a file's: where the new row lies; one file of a disk turned. No condition. -/
namespace Go.Proofs.YtjnphajkoopkgaaGreatDoor.Dk
open Go.RowKit Go.Maps Go.ChangeMaps Go.WideMaps
set_option linter.unusedVariables false
section
variable {P : Program}
theorem append_lies (w : World) (base : Nat) (t u ty e : TypeId) (i : TypeInfo) (ht : P.underlying t = some (.slice e)) (hu : P.underlying u = some .string) (hi : P.info? e = some i) (hz : i.zero = some (.int .u8 0))
    (hsize : i.size = 1) (hby : i.bytes = 1) (v : Value) (n : Nat) (xs : List Value) (hown : w.ownsRow base e 1 v n xs) (s : ByteArray)
    (hbytes : n + s.size ≤ 140737488355328) (hbase : base ≤ w.heap.size) :
    ∃ v' w', (Builtin.append_ #[t, u] ty #[v, .string s]).run P w = .ok v' w' ∧ w'.ownsRow base e 1 v' (n + s.size) (xs ++ Go.Lib.strCells s) ∧ w.grownBy w' v.ownBlock ∧
      (v'.ownBlock = v.ownBlock ∨ v'.ownBlock = some w.heap.size) := by
  obtain ⟨v', w', h1, h2, h3, h4⟩ := Go.Lib.run_append_own_string (P := P) w base t u ty e i ht hu hi hz hsize hby v n xs hown s (by unfold maxLen; omega) hbytes hbase
  refine ⟨v', w', h1, h2, h3, ?_⟩
  have hxl : xs.length = n := by simpa using hown.1
  rcases hown.2 with ⟨hv, hn0⟩ | ⟨g, cap, cur, hv, hb, hg, hnc, hcm, hcs, htake⟩
  · subst hv
    by_cases hs : s.size = 0
    · left
      rw [h4.2 ⟨rfl, hs⟩]
    · right
      have hr := run_append_nil_string (P := P) (w := w) t u ty e i (.int .u8 0) ht hu hi hz s (by omega) (by omega) (by rw [hby]; omega)
      rw [hr] at h1
      injection h1 with h1 _
      rw [← h1]
      rfl
  · subst hv
    by_cases hroom : n + s.size ≤ cap
    · left
      have hr := Go.Lib.run_append_room_string (P := P) w t u ty e i ht hu hi hsize g n cap cur hg s hroom (by rw [hcs]; omega)
      rw [hr] at h1
      injection h1 with h1 _
      rw [← h1]
      rfl
    · right
      have holds : ∀ j u, xs[j]? = some u → w.cell? ((⟨g, 0, none⟩ : Addr).add j) = some u := hown.cells (g := g) rfl
      have hr := Go.Lib.run_append_grow_string (P := P) w t u ty e i (.int .u8 0) ht hu hi hz ⟨g, 0, none⟩ n cap xs (by rw [hsize]; simpa using hxl) holds s (by omega) (by omega) (by rw [hby]; exact growslice_fits (by omega) (by omega))
      rw [hr] at h1
      injection h1 with h1 _
      rw [← h1]
      rfl
end
theorem same_blk : ∀ {F : List DF}, F.Pairwise (fun f g => f.blk ≠ g.blk) → ∀ {f g : DF}, f ∈ F → g ∈ F → f.blk = g.blk → f = g
  | [], _, _, _, hf, _, _ => by cases hf
  | x :: F, hp, f, g, hf, hg, e => by
    obtain ⟨h1, h2⟩ := List.pairwise_cons.1 hp
    rcases List.mem_cons.1 hf with rfl | hf'
    · rcases List.mem_cons.1 hg with rfl | hg'
      · rfl
      · exact absurd e (h1 g hg')
    · rcases List.mem_cons.1 hg with rfl | hg'
      · exact absurd e.symm (h1 f hf')
      · exact same_blk h2 hf' hg' e
theorem rows_apart : ∀ {F : List DF}, F.Pairwise (fun f g => ∀ k, f.v.ownBlock = some k → g.v.ownBlock ≠ some k) → ∀ {f g : DF}, f ∈ F → g ∈ F → f ≠ g → ∀ k, f.v.ownBlock = some k → g.v.ownBlock ≠ some k
  | [], _, _, _, hf, _, _, _, _ => by cases hf
  | x :: F, hp, f, g, hf, hg, e, k, hk => by
    obtain ⟨h1, h2⟩ := List.pairwise_cons.1 hp
    rcases List.mem_cons.1 hf with rfl | hf'
    · rcases List.mem_cons.1 hg with rfl | hg'
      · exact absurd rfl e
      · exact h1 g hg' k hk
    · rcases List.mem_cons.1 hg with rfl | hg'
      · exact fun hk2 => h1 f hf' k hk2 hk
      · exact rows_apart h2 hf' hg' e k hk
/-- One file turned. -/
def repl (f f' : DF) (F : List DF) : List DF := F.map fun g => if g.blk = f.blk then f' else g
theorem repl_none {f f' : DF} : ∀ {F : List DF}, (∀ g ∈ F, g.blk ≠ f.blk) → repl f f' F = F
  | [], _ => rfl
  | x :: F, h => by
    unfold repl
    rw [List.map_cons, if_neg (h x (by simp))]
    exact congrArg _ (repl_none fun g hg => h g (by simp [hg]))
theorem total_repl {f f' : DF} : ∀ {F : List DF}, F.Pairwise (fun f g => f.blk ≠ g.blk) → f ∈ F → total (repl f f' F) + f.bytes.length = total F + f'.bytes.length
  | [], _, hf => by cases hf
  | x :: F, hp, hf => by
    obtain ⟨h1, h2⟩ := List.pairwise_cons.1 hp
    rcases List.mem_cons.1 hf with rfl | hf'
    · have e : repl f f' (f :: F) = f' :: F := by
        have := repl_none (f := f) (f' := f') (F := F) (fun g hg e => h1 g hg e.symm)
        unfold repl at this ⊢
        rw [List.map_cons, if_pos rfl, this]
      rw [e]
      simp only [total, List.map_cons, List.sum_cons]
      omega
    · have ih := total_repl (f' := f') h2 hf'
      have e : repl f f' (x :: F) = x :: repl f f' F := by
        unfold repl
        rw [List.map_cons, if_neg (h1 f hf')]
      rw [e]
      simp only [total, List.map_cons, List.sum_cons] at ih ⊢
      omega
/-- The map's block is none of a file's. -/
theorem Rep.mapapart {w : World} {p : Nat} {d : DS} (h : Rep w p d) {m : Nat} (hm : d.map = some m) {f : DF} (hf : f ∈ d.F) : m ≠ f.blk ∧ ∀ k, f.v.ownBlock = some k → k ≠ m := by
  have hmb : ∃ es clock, w.heap[m]? = some (.map es clock) := by
    rcases h.map with ⟨h1, _⟩ | ⟨m', h1, es, clock, hb, _⟩
    · rw [h1] at hm; cases hm
    · have : m' = m := by rw [h1] at hm; injection hm
      subst this
      exact ⟨es, clock, hb⟩
  obtain ⟨es, clock, hb⟩ := hmb
  refine ⟨fun e => ?_, fun k hk e => ?_⟩
  · have h1 := (h.files f hf).box
    unfold Box at h1
    rw [← e, hb] at h1
    cases h1
  · subst e
    rcases (h.files f hf).row.2 with ⟨h1, _⟩ | ⟨g, cap, cur, h1, _, h3, _⟩
    · rw [h1] at hk; cases hk
    · rw [h1] at hk
      have : g = k := by simpa [Value.ownBlock] using hk
      subst this
      rw [hb] at h3
      cases h3
theorem mapD_repl {F : List DF} {f f' : DF} (hp : F.Pairwise (fun f g => f.blk ≠ g.blk)) (hf : f ∈ F) (hblk : f'.blk = f.blk) (hname : f'.name = f.name) : mapD (repl f f' F) = mapD F := by
  unfold mapD repl
  rw [List.map_map]
  congr 1
  apply List.map_congr_left
  intro g hg
  show entry (if g.blk = f.blk then f' else g) = entry g
  split
  · rename_i e
    have := same_blk hp hg hf e
    subst this
    unfold entry
    rw [hblk, hname]
  · rfl
/-- One file's bytes and the disk's numbers have turned. -/
theorem Rep.turn {w w' : World} {p : Nat} {d d' : DS} (h : Rep w p d) {f f' : DF} (hf : f ∈ d.F) (hblk : f'.blk = f.blk) (hname : f'.name = f.name) (hm : d'.map = d.map) (hF : d'.F = repl f f' d.F)
    (hbox : Box w' p 68 (dkC d')) (ho : Off (fun k => k = p ∨ k = f.blk ∨ f.v.ownBlock = some k) w w') (hfi : FileIn w' f') (hown : ∀ k, f'.v.ownBlock = some k → f.v.ownBlock = some k ∨ w.heap.size ≤ k)
    (hr : 1 ≤ d'.room ∧ d'.room ≤ 4194304) (hu : (total d'.F : Int) ≤ d'.used ∧ d'.used ≤ d'.room) (hl : 0 ≤ d'.left ∧ d'.left ≤ 9223372036854775807) : Rep w' p d' := by
  obtain ⟨a1, a2⟩ := h.apart
  have hlen : (repl f f' d.F).length = d.F.length := by unfold repl; simp
  have hlt : ∀ g ∈ d.F, ∀ k, g.v.ownBlock = some k → k < w.heap.size := by
    intro g hg k hk
    rcases (h.files g hg).row.2 with ⟨h1, _⟩ | ⟨b, cap, cur, h1, _, h3, _⟩
    · rw [h1] at hk; cases hk
    · rw [h1] at hk
      have : b = k := by simpa [Value.ownBlock] using hk
      subst this
      exact lt_of_there h3
  refine ⟨hbox, ?_, ?_, ?_, ?_, ?_, hr, hu, hl⟩
  · rw [hm, hF, mapD_repl h.blks hf hblk hname, hlen]
    rcases h.map with ⟨h1, h2⟩ | ⟨m, h1, h2⟩
    · rw [h2] at hf; cases hf
    · obtain ⟨b1, b2⟩ := h.mapapart h1 hf
      exact .inr ⟨m, h1, map_off h2 ho (fun hk => by
        rcases hk with hk | hk | hk
        · exact a1 m h1 hk
        · exact b1 hk
        · exact b2 m hk rfl)⟩
  · intro g' hg'
    rw [hF] at hg'
    unfold repl at hg'
    obtain ⟨g, hg, rfl⟩ := List.mem_map.1 hg'
    split
    · exact hfi
    · rename_i hne
      have hgf : f ≠ g := fun e => hne (by rw [e])
      refine (h.files g hg).off ho (fun hk => ?_) (fun k hk hk2 => ?_)
      · rcases hk with hk | hk | hk
        · exact (a2 g hg).1 hk
        · exact hne hk
        · exact own_ne (h.files f hf).row (h.files g hg).box (by decide) _ hk rfl
      · rcases hk2 with hk2 | hk2 | hk2
        · exact (a2 g hg).2 k hk hk2
        · exact own_ne (h.files g hg).row (h.files f hf).box (by decide) _ hk hk2
        · exact rows_apart h.rows hf hg hgf k hk2 hk
  · rw [hF]
    unfold repl
    rw [List.pairwise_map]
    refine h.blks.imp_of_mem (fun {a b} ha hb hab => ?_)
    have e : ∀ g : DF, (if g.blk = f.blk then f' else g).blk = g.blk := fun g => by
      split
      · rename_i e; rw [hblk, e]
      · rfl
    rw [e, e]
    exact hab
  · rw [hF]
    unfold repl
    rw [List.pairwise_map]
    refine (h.blks.and h.rows).imp_of_mem (fun {a b} ha hb hab => ?_)
    obtain ⟨hab1, hab2⟩ := hab
    intro k
    split
    · rename_i ea
      have := same_blk h.blks ha hf ea
      subst this
      rw [if_neg (fun eb => hab1 eb.symm)]
      intro hk hk2
      rcases hown k hk with h1 | h1
      · exact hab2 k h1 hk2
      · have := hlt b hb k hk2; omega
    · rename_i ea
      split
      · rename_i eb
        have := same_blk h.blks hb hf eb
        subst this
        intro hk hk2
        rcases hown k hk2 with h1 | h1
        · exact hab2 k hk h1
        · have := hlt a ha k hk; omega
      · exact hab2 k
  · rw [hF]
    unfold repl
    rw [List.pairwise_map]
    refine h.sorted.imp_of_mem (fun {a b} ha hb hab => ?_)
    have e : ∀ g ∈ d.F, (if g.blk = f.blk then f' else g).name = g.name := fun g hg => by
      split
      · rename_i e
        have := same_blk h.blks hg hf e
        subst this
        exact hname
      · rfl
    rw [e a ha, e b hb]
    exact hab
end Go.Proofs.YtjnphajkoopkgaaGreatDoor.Dk
/- Append: what it leaves. No condition. -/
namespace Go.Proofs.YtjnphajkoopkgaaGreatDoor.Dk
open Go.RowKit Go.Maps Go.ChangeMaps Go.WideMaps
set_option linter.unusedVariables false
/-- What a call that turns a disk leaves. -/
def Gives (W : World) (p : Nat) (d : DS) (v : Value) (Q : DS → Prop) (e : Ending) (w' : World) : Prop :=
  e = .returned v ∧ ∃ d', Rep w' p d' ∧ Q d' ∧ Off (Foot p d) W w' ∧ ∀ k, Foot p d' k → Foot p d k ∨ W.heap.size ≤ k
theorem wpList_append_str {P : Program} {ops : Array Oper} {rest : List Oper} {o : Oper} {a : Act} {Q : Exit → Act → World → Prop} (w : World) (hgd : o.guard = none) (sl x : Operand) (t u : TypeId)
    (ho : o.op = .call { callee := .builtin .append, args := #[sl, x], argTypes := #[t, u] })
    (base : Nat) (e : TypeId) (i : TypeInfo) (ht : P.underlying t = some (.slice e)) (hu : P.underlying u = some .string) (hi : P.info? e = some i) (hz : i.zero = some (.int .u8 0))
    (hsize : i.size = 1) (hby : i.bytes = 1)
    (v : Value) (n : Nat) (xs : List Value) (hs : a.eval sl = v) (hown : w.ownsRow base e 1 v n xs) (s : ByteArray) (hx : a.eval x = .string s)
    (hbytes : n + s.size ≤ 140737488355328) (hbase : base ≤ w.heap.size)
    (h : ∀ v' w', w'.ownsRow base e 1 v' (n + s.size) (xs ++ Go.Lib.strCells s) → w.grownBy w' v.ownBlock → (v'.ownBlock = v.ownBlock ∨ v'.ownBlock = some w.heap.size) → wpList P ops Q rest (a.put o.dst v') w') : wpList P ops Q (o :: rest) a w := by
  refine wpList_plain hgd fun K hK => ?_
  obtain ⟨v', w', hr, h2, h3, h4⟩ := append_lies (P := P) w base t u o.type e i ht hu hi hz hsize hby v n xs hown s hbytes hbase
  unfold Oper.wp execOp
  simp only [ho, resolve, invoke, builtin, Sem.run_bind, Sem.run_pure, Result.andThen_ok, List.map_toArray, List.map_cons, List.map_nil, hs, hx, hr]
  exact hK _ _ (h v' w' h2 h3 h4)
theorem box_row {w w' : World} {b : Nat} {t : TypeId} {cs : Array Value} {row : Option Nat} (h : Box w b t cs) (hg : w.grownBy w' row) (hne : ∀ k, row = some k → k ≠ b) : Box w' b t cs :=
  (hg.block b h.lt (fun e => hne b e.symm rfl)).trans h
/-- One file has more bytes, and the disk counts them. -/
def moreF (f : DF) (v : Value) (s : ByteArray) : DF := ⟨f.name, f.blk, v, f.bytes ++ s.data.toList, f.safe⟩
def moreD (d : DS) (f : DF) (v : Value) (s : ByteArray) : DS := { d with used := d.used + (s.size : Int), F := repl f (moreF f v s) d.F }
theorem more_rep {W w1 : World} {p : Nat} {d : DS} (h : Rep W p d) {f : DF} (hf : f ∈ d.F) {s : ByteArray} (hsz : (s.size : Int) ≤ d.room - d.used) {v' : Value} (hown : w1.ownsRow 0 5 1 v' (f.bytes.length + s.size) (byteCells f.bytes ++ Go.Lib.strCells s))
    (hgrow : W.drew.grownBy w1 f.v.ownBlock) (hlies : v'.ownBlock = f.v.ownBlock ∨ v'.ownBlock = some W.heap.size) :
    Rep ((w1.setCell ⟨f.blk, 0, none⟩ v').setCell ⟨p, 1, none⟩ (.int .i64 (d.used + (s.size : Int)))) p (moreD d f v' s) ∧ Off (fun k => k = p ∨ k = f.blk ∨ f.v.ownBlock = some k) W ((w1.setCell ⟨f.blk, 0, none⟩ v').setCell ⟨p, 1, none⟩ (.int .i64 (d.used + (s.size : Int)))) ∧
      ∀ k, Foot p (moreD d f v' s) k → Foot p d k ∨ W.heap.size ≤ k := by
  have fi := h.files f hf
  obtain ⟨a1, a2⟩ := h.apart
  have n1 := own_ne fi.row h.box (by decide)
  have n2 := own_ne fi.row fi.box (by decide)
  have g1 : Box w1 p 68 (dkC d) := box_row (w := W.drew) h.box hgrow n1
  have g2 : Box w1 f.blk 108 #[f.v, .int .i64 (f.safe : Int)] := box_row (w := W.drew) fi.box hgrow n2
  have m1 := own_ne hown g1 (by decide)
  have m2 := own_ne hown g2 (by decide)
  have hown' : ∀ k, v'.ownBlock = some k → f.v.ownBlock = some k ∨ W.heap.size ≤ k := fun k hk => by
    rcases hlies with e | e
    · exact .inl (by rw [← e]; exact hk)
    · rw [e] at hk
      injection hk with hk
      exact .inr (by omega)
  have ho : Off (fun k => k = p ∨ k = f.blk ∨ f.v.ownBlock = some k) W ((w1.setCell ⟨f.blk, 0, none⟩ v').setCell ⟨p, 1, none⟩ (.int .i64 (d.used + (s.size : Int)))) :=
    (((Off.refl _ _).drew.grown hgrow (fun k e _ => .inr (.inr e))).set (.inl (.inr (.inl rfl))) _).set (.inl (.inl rfl)) _
  have hl : (f.bytes ++ s.data.toList).length = f.bytes.length + s.size := by rw [List.length_append]; rfl
  have ht := total_repl (f' := moreF f v' s) h.blks hf
  have hl2 : (moreF f v' s).bytes.length = f.bytes.length + s.size := hl
  rw [hl2] at ht
  have hu := h.used
  refine ⟨h.turn hf (f' := moreF f v' s) rfl rfl rfl rfl ?_ ho ⟨?_, ?_, ?_, fi.name⟩ hown' h.room ⟨?_, ?_⟩ h.left, ho, ?_⟩
  · have := (g1.far (p := ⟨f.blk, 0, none⟩) (fun e => (a2 f hf).1 e.symm) v').set 1 (.int .i64 (d.used + (s.size : Int)))
    exact this
  · have := (g2.set 0 v').far (p := ⟨p, 1, none⟩) (a2 f hf).1 (.int .i64 (d.used + (s.size : Int)))
    exact this
  · have q1 := own_off hown (Off.one w1 ⟨f.blk, 0, none⟩ v') m2
    have q2 := own_off q1 (Off.one _ ⟨p, 1, none⟩ (.int .i64 (d.used + (s.size : Int)))) m1
    have e1 : byteCells (f.bytes ++ s.data.toList) = byteCells f.bytes ++ Go.Lib.strCells s := by unfold byteCells Go.Lib.strCells; rw [List.map_append]
    show World.ownsRow _ 0 5 1 v' (f.bytes ++ s.data.toList).length (byteCells (f.bytes ++ s.data.toList))
    rw [e1, hl]
    exact q2
  · have := fi.safe
    show f.safe ≤ (f.bytes ++ s.data.toList).length
    omega
  · show (total (repl f (moreF f v' s) d.F) : Int) ≤ d.used + (s.size : Int)
    omega
  · show d.used + (s.size : Int) ≤ d.room
    omega
  · intro k hk
    rcases hk with hk | hk | ⟨g, hg, hk⟩
    · exact .inl (.inl hk)
    · exact .inl (.inr (.inl hk))
    · have hg' : g ∈ repl f (moreF f v' s) d.F := hg
      unfold repl at hg'
      obtain ⟨g0, hg0, rfl⟩ := List.mem_map.1 hg'
      split at hk
      · rcases hk with hk | hk
        · exact .inl (.inr (.inr ⟨f, hf, .inl hk⟩))
        · rcases hown' k hk with h1 | h1
          · exact .inl (.inr (.inr ⟨f, hf, .inr h1⟩))
          · exact .inr h1
      · exact .inl (.inr (.inr ⟨g0, hg0, hk⟩))
theorem total_ge : ∀ {F : List DF} {f : DF}, f ∈ F → f.bytes.length ≤ total F
  | [], _, h => by cases h
  | x :: F, f, h => by
    simp only [total, List.map_cons, List.sum_cons]
    rcases List.mem_cons.1 h with rfl | h'
    · omega
    · have := total_ge h'
      unfold total at this
      omega
theorem file_in {F : List DF} {n : List UInt8} {f : DF} (h : fileOf F n = some f) : f ∈ F ∧ f.name = n := by
  have h1 := List.mem_of_find?_eq_some h
  have h2 := List.find?_some h
  exact ⟨h1, by simpa using h2⟩
set_option maxHeartbeats 2000000 in
set_option maxRecDepth 100000 in
theorem app_has (p : Nat) (d : DS) (W : World) (n s : ByteArray) (f : DF) (h : Rep W p d) (hu : upB d = true) (hnm : nameB n = true) (hsz : (s.size : Int) ≤ d.room - d.used) (hf : fileOf d.F n.data.toList = some f) :
    Calls Tryz.prog 37 #[dp p, .string n, .string s] W (Gives W p d (.int .i64 0) fun d' => d'.room = d.room ∧ d'.fused = d.fused ∧ d'.left = (chg d).left ∧ d'.used = d.used + (s.size : Int) ∧ ∃ f', d'.F = repl f f' d.F ∧ f'.name = f.name ∧ f'.bytes = f.bytes ++ s.data.toList ∧ f'.safe = f.safe) := by
  have hn40 : n.size ≤ 40 := by unfold nameB at hnm; simp at hnm; omega
  have hr0 := ready_c p d W h
  unfold rdyI at hr0
  rw [hu, if_pos rfl] at hr0
  have hn0 := nameable_c n (by omega) W
  rw [hnm] at hn0
  have hdr : Rep W.drew p d := h.later ((Below.refl _ _).drew)
  have hl := look_run hdr n (by unfold maxLen; omega)
  unfold ptrOf at hl
  rw [hf] at hl
  simp only at hl
  obtain ⟨y0, y1, y2, y3, y4⟩ := h.at
  obtain ⟨hf1, hf2⟩ := file_in hf
  have fi := h.files f hf1
  have x0 : W.cell? ⟨f.blk, 0, none⟩ = some f.v := (fi.box.cell 0).trans rfl
  have HL := Lib.hid h.room
  have HU := Lib.hid h.used
  have hu0 : 0 ≤ d.used := by have := h.used; omega
  have hu1 : d.used ≤ 4194304 := by have := h.used; have := h.room; omega
  have hwr : IntKind.i64.wrap (d.room - d.used) = d.room - d.used := IntWalk.i64_in _ (by have := h.room; have := h.used; omega)
  have hs4 : (s.size : Int) ≤ 4194304 := by have := h.room; omega
  have hwa : IntKind.i64.wrap (d.used + (s.size : Int)) = d.used + (s.size : Int) := IntWalk.i64_in _ (by omega)
  have hrow := fi.row
  have hbl : f.bytes.length + s.size ≤ 140737488355328 := by have := total_ge hf1; have := h.used; have := h.room; omega
  unfold dp at *
  go_enter Tryz.func37, Tryz.ntmps37
  go_wp2_with fail
  (with_reducible refine hr0.mono ?_)
  rintro en w1 ⟨rfl, hw⟩
  have hw' := hw.symm
  subst hw'
  clear hw
  go_wp2_with fail
  (with_reducible refine hn0.mono ?_)
  rintro en w2 ⟨rfl, hw⟩
  have hw' := hw.symm
  subst hw'
  clear hw
  go_wp2_with fail
  go_region_held3 (fun w => w.cell? ⟨p, 0, none⟩ = some (.int .i64 d.room) ∧ w.cell? ⟨p, 1, none⟩ = some (.int .i64 d.used)) (exact ⟨y0, y1⟩) (fail)
  obtain ⟨i0, hi, hz⟩ := Option.map_eq_some_iff.1 info5
  simp only [Prod.mk.injEq] at hz
  obtain ⟨hz0, hz1, hz2⟩ := hz
  go_wp2_with (at_builtin; refine wpList_append_str _ rfl _ _ 106 9 rfl 0 5 i0 Tryz.underlying106 Tryz.underlying9 hi hz0 hz1 hz2 f.v _ _ rfl (own_below hrow ((Below.refl _ _).drew)) s rfl hbl (Nat.zero_le _) ?_)
  intro v' w1 hown hgrow hlies
  obtain ⟨a1, a2⟩ := h.apart
  have n1 := own_ne fi.row h.box (by decide)
  have n2 := own_ne fi.row fi.box (by decide)
  have g1 : Box w1 p 68 (dkC d) := box_row (w := W.drew) h.box hgrow n1
  have g2 : Box w1 f.blk 108 #[f.v, .int .i64 (f.safe : Int)] := box_row (w := W.drew) fi.box hgrow n2
  obtain ⟨ao, n', cap, rfl⟩ : ∃ ao n' cap, v' = .slice ao n' cap := by
    rcases hown.2 with ⟨hv, _⟩ | ⟨g, cap, cur, hv, _⟩
    · exact ⟨_, _, _, hv⟩
    · exact ⟨_, _, _, hv⟩
  obtain ⟨R3, o3, f3⟩ := more_rep h hf1 hsz hown hgrow hlies
  have hch := changed_c p _ _ R3 hu
  have R := Lib.hid R3
  have O3 := Lib.hid o3
  have F3 := Lib.hid f3
  have b1 : w1.cell? ⟨p, 1, none⟩ = some (.int .i64 d.used) := (g1.cell 1).trans rfl
  have b2 : w1.frozen? ⟨p, 1, none⟩ = false := g1.frozen 1
  have b3 : w1.cell? ⟨f.blk, 0, none⟩ = some f.v := (g2.cell 0).trans rfl
  have b4 : w1.frozen? ⟨f.blk, 0, none⟩ = false := g2.frozen 0
  have hne : f.blk ≠ p := (a2 f hf1).1
  have hne' : p ≠ f.blk := fun e => hne e.symm
  clear R3 o3 f3 hrow hl y0 y1 y2 y3 y4 x0 hdr
  unfold dp at *
  go_wp2_with fail
  (with_reducible refine hch.mono ?_)
  rintro en w4 ⟨rfl, R4, o4⟩
  go_wp2
  go_ret
  refine ⟨rfl, _, R4, ⟨rfl, rfl, rfl, rfl, _, rfl, rfl, rfl, rfl⟩, ?_, F3.out⟩
  refine (O3.out.mono fun k _ hk => ?_).trans o4 fun k _ hk => .inl hk
  rcases hk with hk | hk | hk
  · exact .inl hk
  · exact .inr (.inr ⟨f, hf1, .inl hk⟩)
  · exact .inr (.inr ⟨f, hf1, .inr hk⟩)
end Go.Proofs.YtjnphajkoopkgaaGreatDoor.Dk
