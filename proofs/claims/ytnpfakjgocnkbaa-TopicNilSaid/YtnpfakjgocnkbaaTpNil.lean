/- topic: the law TopicNil walks to true. No condition. -/
import Derived.Test.YtnpfakjgocnkbaaTpPr
import Derived.Test.YtnpfakjgocnkbaaTpOp
namespace Go.Proofs.Ytnpfakjgocnkbaa
open Go.RowKit
set_option linter.unusedVariables false
theorem print_none : printT (0, []) = [0, 0] := rfl
set_option maxHeartbeats 16000000 in
set_option maxRecDepth 100000 in
theorem topicNil_walk (x : OT) (W : World) (hx : x.name.size ≤ 140737488351232) : Calls Try.prog 6 #[.agg #[.int .i64 x.do_, .string x.name, .int .i64 x.parts]] W (Yes W) := by
  have cp := fun w => tparse_c ⟨#[1]⟩ w (by decide)
  rw [lv_6] at cp
  have cc := fun s k w => tcreate_nil s k w
  have cd := fun s w => tdelete_nil s w
  have cf := fun s w => tfind_nil s w
  have cls := fun w => list_nil w
  have cpr := fun w => tprint_nil w
  rw [print_none] at cpr
  have cl := fun w => live_c w
  unfold Yes at cl
  have HB0 := Lib.hid (Box.new W 30 #[.int .i64 x.do_, .string x.name, .int .i64 x.parts])
  have HW0 := Lib.hid ((Below.refl W.heap.size W).alloc (Nat.le_refl _) (.cells #[.int .i64 x.do_, .string x.name, .int .i64 x.parts] 30))
  go_enter Try.func6, Try.ntmps6
  go_wp2_with fail
  with_reducible refine (cp _).mono ?_
  rintro en w1 (⟨_, rfl, hb⟩ | ⟨h, _⟩)
  case inr => exact absurd h (by decide)
  have HB1 := Lib.hid (HB0.out.later hb)
  have HW1 := Lib.hid (HW0.out.trans (hb.mono (by simp)))
  have z1 := (HB1.out.cell 1).trans (show _ = some (Value.string x.name) from rfl)
  have z2 := (HB1.out.cell 2).trans (show _ = some (Value.int .i64 x.parts) from rfl)
  have zl := HB1.out.lt
  clear hb cp
  go_wp2_with fail
  with_reducible refine (cc _ _ _).mono ?_
  rintro en w2 ⟨rfl, hb⟩
  have HB2 := Lib.hid (HB1.out.later hb)
  have HW2 := Lib.hid (HW1.out.trans (hb.mono HW1.out.size))
  clear hb z1 z2 zl HB1
  have z1 := (HB2.out.cell 1).trans (show _ = some (Value.string x.name) from rfl)
  have zl := HB2.out.lt
  go_wp2_with fail
  with_reducible refine (cd _ _).mono ?_
  rintro en w3 ⟨rfl, hb⟩
  have HB3 := Lib.hid (HB2.out.later hb)
  have HW3 := Lib.hid (HW2.out.trans (hb.mono HW2.out.size))
  clear hb z1 zl HB2
  have z1 := (HB3.out.cell 1).trans (show _ = some (Value.string x.name) from rfl)
  have zl := HB3.out.lt
  go_wp2_with fail
  with_reducible refine (cf _ _).mono ?_
  rintro en w4 ⟨rfl, hb⟩
  have HW4 := Lib.hid (HW3.out.trans (hb.mono HW3.out.size))
  clear hb z1 zl HB3 HW3
  go_wp2_with fail
  with_reducible refine (cls _).mono ?_
  rintro en w5 ⟨A, c, rfl, _, hb⟩
  have HW5 := Lib.hid (HW4.out.trans (hb.mono HW4.out.size))
  clear hb HW4
  rw [List.length_nil]
  go_wp2_with fail
  with_reducible refine (cpr _).mono ?_
  rintro en w6 ⟨rfl, hb⟩
  have HW6 := Lib.hid (HW5.out.trans (hb.mono HW5.out.size))
  clear hb HW5
  go_wp2_with fail
  with_reducible refine (cl _).mono ?_
  rintro en w7 ⟨rfl, hb⟩
  have HW7 := Lib.hid (HW6.out.trans (hb.mono HW6.out.size))
  clear hb HW6
  go_wp2_with fail
  go_ret
  exact ⟨rfl, HW7.out⟩
end Go.Proofs.Ytnpfakjgocnkbaa
