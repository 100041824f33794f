/- expr: the statements' live call, by a contract. -/
import Derived.Test.YtneholfghffpfaaExPs
import Derived.Test.YtneholfghffpfaaExPr
import Derived.Test.YtneholfghffpfaaExDp
import Derived.Test.YtneholfghffpfaaExSm
namespace Go.Proofs.Ytneholfghffpfaa
open Go.RowKit
set_option linter.unusedVariables false
def tHas : Tr := .mk 4 ⟨#[97]⟩ ⟨#[]⟩ []
def tNot : Tr := .mk 3 ⟨#[]⟩ ⟨#[]⟩ [tHas]
def tNine : Tr := .mk 9 ⟨#[]⟩ ⟨#[]⟩ []
theorem live_print : printG 1 tNot = (⟨#[3, 4, 2, 97]⟩, 0) := by kernel_rfl
theorem live_parse : parseG ⟨#[3, 4, 2, 97]⟩ = (tNot, 0) := by kernel_rfl
theorem live_cut : parseG ⟨#[3, 4]⟩ = (trZ, 2) := by kernel_rfl
theorem live_form : parseG ⟨#[8]⟩ = (trZ, 3) := by kernel_rfl
theorem live_size : (walkG sizeV 1 0 tNot 1).2 = 2 := by kernel_rfl
theorem live_nine : (if (walkG mayV 0 0 tNine 1).1 = true then (0 : Int) else 1) = 1 := by kernel_rfl
theorem node_has : NodeOk tHas := exNode (by decide) (by decide) (by decide) (by decide) (by decide)
theorem node_not : NodeOk tNot := exNode (by decide) (by decide) (by decide) (by decide) (by decide)
theorem node_nine : NodeOk tNine := exNode (by decide) (by decide) (by decide) (by decide) (by decide)
/-- The live call's memory. -/
structure LvAt (W w : World) : Prop where
  row : Box w W.heap.size 24 #[.int .i64 4, .string ⟨#[97]⟩, .string ⟨#[]⟩, .slice none 0 0]
  box : Box w (W.heap.size + 1) 24 #[.int .i64 3, .string ⟨#[]⟩, .string ⟨#[]⟩, .slice (some ⟨W.heap.size, 0, none⟩) 1 1]
  bel : Below W.heap.size W w
theorem LvAt.later {W w w' : World} (h : LvAt W w) (hb : Below w.heap.size w w') : LvAt W w' := ⟨h.row.later hb, h.box.later hb, h.bel.trans (hb.mono h.bel.size)⟩
theorem LvAt.start (W : World) : LvAt W ((W.alloc (.cells #[.int .i64 4, .string ⟨#[97]⟩, .string ⟨#[]⟩, .slice none 0 0] 24)).alloc (.cells #[.int .i64 3, .string ⟨#[]⟩, .string ⟨#[]⟩, .slice (some ⟨W.heap.size, 0, none⟩) 1 1] 24)) :=
  ⟨(Box.new _ _ _).alloc _, by have h := Box.new (W.alloc (.cells #[.int .i64 4, .string ⟨#[97]⟩, .string ⟨#[]⟩, .slice none 0 0] 24)) 24 #[.int .i64 3, .string ⟨#[]⟩, .string ⟨#[]⟩, .slice (some ⟨W.heap.size, 0, none⟩) 1 1]; simpa using h, ((Below.refl _ _).alloc (Nat.le_refl _) _).alloc (by simp) _⟩
theorem LvAt.tree {W w : World} (h : LvAt W w) : TrAt (fun _ => True) w 1 (some ⟨W.heap.size, 0, none⟩) tNot := by
  refine ⟨node_not, fun _ => ⟨W.heap.size, 0, rfl, trivial, h.row.lt, fun j k hj => ?_⟩⟩
  cases j with
  | zero =>
    have : tHas = k := by simpa [tNot, Tr.kids] using hj
    subst this
    exact ⟨none, 0, h.row.cell 0, h.row.cell 1, h.row.cell 2, h.row.cell 3, node_has, rfl⟩
  | succ j => simp [tNot, Tr.kids] at hj
theorem LvAt.cells {W w : World} (h : LvAt W w) : w.cell? ⟨W.heap.size + 1, 0, none⟩ = some (.int .i64 3) ∧ w.cell? ⟨W.heap.size + 1, 1, none⟩ = some (.string ⟨#[]⟩) ∧ w.cell? ⟨W.heap.size + 1, 2, none⟩ = some (.string ⟨#[]⟩) ∧ w.cell? ⟨W.heap.size + 1, 3, none⟩ = some (.slice (some ⟨W.heap.size, 0, none⟩) 1 1) :=
  ⟨h.box.cell 0, h.box.cell 1, h.box.cell 2, h.box.cell 3⟩
set_option maxHeartbeats 4000000 in
set_option maxRecDepth 100000 in
theorem live6_c (W : World) : Calls Try.prog 10 #[] W (Yes W) := by
  have cp : ∀ w, LvAt W w → Calls Try.prog 17 #[.agg #[.int .i64 3, .string ⟨#[]⟩, .string ⟨#[]⟩, .slice (some ⟨W.heap.size, 0, none⟩) 1 1]] w (Good w (.tuple #[.string ⟨#[3, 4, 2, 97]⟩, .int .i64 0])) := fun w h => by
    have := print_c (fun _ => True) 1 tNot (some ⟨W.heap.size, 0, none⟩) 1 w (by decide) h.tree
    rw [live_print] at this
    exact this
  have p1 : ∀ w, Calls Try.prog 19 #[.string ⟨#[3, 4, 2, 97]⟩] w (fun en w' => ∃ A c, en = .returned (.tuple #[.agg #[.int .i64 3, .string ⟨#[]⟩, .string ⟨#[]⟩, .slice A 1 c], .int .i64 0]) ∧ TrAt (fun b => w.heap.size ≤ b) w' 6 A tNot ∧ Below w.heap.size w w') := fun w => by have := parse_c ⟨#[3, 4, 2, 97]⟩ w (by decide); rw [live_parse] at this; exact this
  have p2 : ∀ w, Calls Try.prog 19 #[.string ⟨#[3, 4]⟩] w (fun en w' => ∃ A c, en = .returned (.tuple #[.agg #[.int .i64 0, .string ⟨#[]⟩, .string ⟨#[]⟩, .slice A 0 c], .int .i64 2]) ∧ TrAt (fun b => w.heap.size ≤ b) w' 6 A trZ ∧ Below w.heap.size w w') := fun w => by have := parse_c ⟨#[3, 4]⟩ w (by decide); rw [live_cut] at this; exact this
  have p3 : ∀ w, Calls Try.prog 19 #[.string ⟨#[8]⟩] w (fun en w' => ∃ A c, en = .returned (.tuple #[.agg #[.int .i64 0, .string ⟨#[]⟩, .string ⟨#[]⟩, .slice A 0 c], .int .i64 3]) ∧ TrAt (fun b => w.heap.size ≤ b) w' 6 A trZ ∧ Below w.heap.size w w') := fun w => by have := parse_c ⟨#[8]⟩ w (by decide); rw [live_form] at this; exact this
  have cd : ∀ w, LvAt W w → Calls Try.prog 13 #[.agg #[.int .i64 3, .string ⟨#[]⟩, .string ⟨#[]⟩, .slice (some ⟨W.heap.size, 0, none⟩) 1 1]] w (Good w (.int .i64 2)) := fun w h => depth2_c tNot W.heap.size 0 1 0 none w rfl h.row.lt (h.row.cell 3)
  have cs : ∀ w, LvAt W w → Calls Try.prog 15 #[.agg #[.int .i64 3, .string ⟨#[]⟩, .string ⟨#[]⟩, .slice (some ⟨W.heap.size, 0, none⟩) 1 1]] w (Good w (.int .i64 2)) := fun w h => by
    have := size_c (fun _ => True) 1 tNot (some ⟨W.heap.size, 0, none⟩) 1 w (by decide) h.tree
    rw [live_size] at this
    exact this
  have cc : ∀ w, Calls Try.prog 11 #[.agg #[.int .i64 9, .string ⟨#[]⟩, .string ⟨#[]⟩, .slice none 0 0]] w (Good w (.int .i64 1)) := fun w => by
    have := check_c (fun _ => True) 0 tNine none 0 w (by decide) ⟨node_nine, rfl⟩
    rw [live_nine] at this
    exact this
  have csm : ∀ w A c, LvAt W w → TrAt (fun _ => True) w 6 A tNot → Calls Try.prog 21 #[.agg #[.int .i64 3, .string ⟨#[]⟩, .string ⟨#[]⟩, .slice (some ⟨W.heap.size, 0, none⟩) 1 1], .agg #[.int .i64 3, .string ⟨#[]⟩, .string ⟨#[]⟩, .slice A 1 c]] w (Good w (.bool true)) := fun w A c h hT => by
    have h1 : TrAt (fun _ => True) w 6 (some ⟨W.heap.size, 0, none⟩) tNot := h.tree.deeper.deeper.deeper.deeper.deeper
    exact rSame_c (fun _ => True) 6 tNot (some ⟨W.heap.size, 0, none⟩) A 1 c w (by decide) h1 hT
  have H0 := Lib.hid (LvAt.start W)
  obtain ⟨x0, x1, x2, x3⟩ := H0.out.cells
  go_enter Try.func10, Try.ntmps10
  go_wp2_with fail
  with_reducible refine (cp _ H0.out).mono ?_
  rintro en w1 ⟨rfl, hb1⟩
  have H1 := Lib.hid (H0.out.later hb1)
  clear hb1 H0 x0 x1 x2 x3 cp
  go_wp2_with fail
  with_reducible refine (p1 _).mono ?_
  rintro en w2 ⟨A, c, rfl, hT, hb2⟩
  have HT := Lib.hid (hT.mono (ok' := fun _ => True) (fun _ _ _ => trivial))
  have H2 := Lib.hid (H1.out.later hb2)
  clear hb2 hT H1 p1
  have HX := Lib.hid (Box.new w2 24 #[.int .i64 3, .string ⟨#[]⟩, .string ⟨#[]⟩, .slice A 1 c])
  have HA := Lib.hid ((Below.refl w2.heap.size w2).alloc (Nat.le_refl _) (.cells #[.int .i64 3, .string ⟨#[]⟩, .string ⟨#[]⟩, .slice A 1 c] 24))
  have H3 := Lib.hid (H2.out.later HA.out)
  have HT3 := Lib.hid (HT.out.below HA.out)
  have hlt2 := H2.out.box.lt
  clear HA H2 HT
  go_wp2_with fail
  with_reducible refine (p2 _).mono ?_
  rintro en w3 ⟨A3, c3, rfl, _, hb3⟩
  have HX3 := Lib.hid (HX.out.later hb3)
  have H4 := Lib.hid (H3.out.later hb3)
  have HT4 := Lib.hid (HT3.out.below hb3)
  clear hb3 HX H3 HT3 p2
  have HA := Lib.hid ((Below.refl w3.heap.size w3).alloc (Nat.le_refl _) (.cells #[.int .i64 0, .string ⟨#[]⟩, .string ⟨#[]⟩, .slice A3 0 c3] 24))
  have HX4 := Lib.hid (HX3.out.later HA.out)
  have H5 := Lib.hid (H4.out.later HA.out)
  have HT5 := Lib.hid (HT4.out.below HA.out)
  clear HA HX3 H4 HT4
  go_wp2_with fail
  with_reducible refine (p3 _).mono ?_
  rintro en w4 ⟨A4, c4, rfl, _, hb4⟩
  have HX5 := Lib.hid (HX4.out.later hb4)
  have H6 := Lib.hid (H5.out.later hb4)
  have HT6 := Lib.hid (HT5.out.below hb4)
  clear hb4 HX4 H5 HT5 p3
  have HA := Lib.hid ((Below.refl w4.heap.size w4).alloc (Nat.le_refl _) (.cells #[.int .i64 0, .string ⟨#[]⟩, .string ⟨#[]⟩, .slice A4 0 c4] 24))
  have HX6 := Lib.hid (HX5.out.later HA.out)
  have H7 := Lib.hid (H6.out.later HA.out)
  have HT7 := Lib.hid (HT6.out.below HA.out)
  clear HA HX5 H6 HT6
  obtain ⟨x0, x1, x2, x3⟩ := H7.out.cells
  have y0 := HX6.out.cell 0
  have y1 := HX6.out.cell 1
  have y2 := HX6.out.cell 2
  have y3 := HX6.out.cell 3
  simp only [List.getElem?_toArray, List.getElem?_cons_zero, List.getElem?_cons_succ] at y0 y1 y2 y3
  go_wp2_with fail
  with_reducible refine (csm _ _ _ H7.out HT7.out).mono ?_
  rintro en w5 ⟨rfl, hb5⟩
  have H8 := Lib.hid (H7.out.later hb5)
  clear hb5 x0 x1 x2 x3 y0 y1 y2 y3 H7 HX6 HT7 csm
  obtain ⟨x0, x1, x2, x3⟩ := H8.out.cells
  go_wp2_with fail
  with_reducible refine (cd _ H8.out).mono ?_
  rintro en w6 ⟨rfl, hb6⟩
  have H9 := Lib.hid (H8.out.later hb6)
  clear hb6 x0 x1 x2 x3 H8 cd
  obtain ⟨x0, x1, x2, x3⟩ := H9.out.cells
  go_wp2_with fail
  with_reducible refine (cs _ H9.out).mono ?_
  rintro en w7 ⟨rfl, hb7⟩
  have H10 := Lib.hid (H9.out.later hb7)
  clear hb7 x0 x1 x2 x3 H9 cs
  go_wp2_with fail
  with_reducible refine (cc _).mono ?_
  rintro en w8 ⟨rfl, hb8⟩
  have H11 := Lib.hid (H10.out.later hb8)
  clear hb8 H10 cc
  go_wp2_with fail
  go_ret
  exact ⟨rfl, H11.out.bel⟩
end Go.Proofs.Ytneholfghffpfaa
