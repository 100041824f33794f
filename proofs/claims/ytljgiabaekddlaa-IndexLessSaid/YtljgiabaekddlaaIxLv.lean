/- index: live; the law IndexNil walks to true. No condition. -/
import Derived.Test.YtljgiabaekddlaaIxTw
import Derived.Test.YtljgiabaekddlaaIxOp
namespace Go.Proofs.Ytljgiabaekddlaa
open Go.RowKit
set_option linter.unusedVariables false
def lx0 : Ix := ⟨10, [], 0, 0, 0⟩
def lx1 : Ix := ⟨10, [(0, 0, 5)], 0, 0, 5⟩
def lx2 : Ix := ⟨10, [(0, 0, 5)], 1, 4, 9⟩
def lx3 : Ix := ⟨10, [(0, 0, 5), (2, 12, 9)], 2, 12, 9⟩
theorem lx_1 : lx0.add 0 0 5 = lx1 ∧ lx0.addE 0 0 5 = 0 := by constructor <;> rfl
theorem lx_2 : lx1.add 1 4 9 = lx2 ∧ lx1.addE 1 4 9 = 0 := by constructor <;> rfl
theorem lx_3 : lx2.add 2 12 7 = lx3 ∧ lx2.addE 2 12 7 = 0 := by constructor <;> rfl
theorem lx_4 : lx3.add 2 13 7 = lx3 ∧ lx3.addE 2 13 7 = 1 := by constructor <;> rfl
theorem lx_f : aheadG lx3.L (qF 1) = 0 ∧ aheadG lx3.L (qF 2) = 12 ∧ aheadG lx3.L (qS 9) = 0 ∧ aheadG lx3.L (qS 10) = 12 := by refine ⟨?_, ?_, ?_, ?_⟩ <;> decide +kernel
theorem lx_wf : lx3.Wf := by
  rw [← lx_3.1]
  refine Ix.wf_add ?_ _ _ _
  rw [← lx_2.1]
  refine Ix.wf_add ?_ _ _ _
  rw [← lx_1.1]
  exact Ix.wf_add (Ix.wf_new 10) _ _ _
set_option maxHeartbeats 8000000 in
set_option maxRecDepth 100000 in
theorem live9_c (W : World) : Calls Try.prog 9 #[] W (Good W (.bool true)) := by
  have n10 := new_c 10 W
  have n0 := fun w => new_c 0 w
  unfold GotNew at n10 n0
  go_enter Try.func9, Try.ntmps9
  go_wp2_with fail
  (with_reducible refine n10.mono ?_)
  rintro e w1 ⟨_, hn⟩
  obtain ⟨rfl, hx, hb⟩ := hn (by omega)
  have H1 : Hid (Tw W (XI W.heap.size lx0) (fun _ _ => True) w1) := Lib.hid (Tw.start hx (Nat.le_refl _) hb)
  clear hn hx hb n10
  go_wp2_with fail
  (with_reducible refine (n0 _).mono ?_)
  rintro e w2 ⟨hn, _⟩
  obtain ⟨rfl, hw⟩ := hn (by omega)
  have hw' := hw.symm
  subst hw'
  clear hn hw n0
  go_wp2_with fail
  (with_reducible refine (H1.out.xadd tt_rep 0 0 5 (by decide)).mono ?_)
  rintro e w3 ⟨rfl, ht⟩
  rw [lx_1.1] at ht
  rw [lx_1.2]
  have H2 := Lib.hid ht
  clear ht H1
  go_wp2_with fail
  (with_reducible refine (H2.out.xadd tt_rep 1 4 9 (by decide)).mono ?_)
  rintro e w4 ⟨rfl, ht⟩
  rw [lx_2.1] at ht
  rw [lx_2.2]
  have H3 := Lib.hid ht
  clear ht H2
  go_wp2_with fail
  (with_reducible refine (H3.out.xadd tt_rep 2 12 7 (by decide)).mono ?_)
  rintro e w5 ⟨rfl, ht⟩
  rw [lx_3.1] at ht
  rw [lx_3.2]
  have H4 := Lib.hid ht
  clear ht H3
  go_wp2_with fail
  (with_reducible refine (H4.out.xadd tt_rep 2 13 7 (by decide)).mono ?_)
  rintro e w6 ⟨rfl, ht⟩
  rw [lx_4.1] at ht
  rw [lx_4.2]
  have H5 := Lib.hid ht
  clear ht H4
  go_wp2_with fail
  (with_reducible refine (H5.out.xfind tt_rep 1 (by decide) lx_wf).mono ?_)
  rintro e w7 ⟨rfl, ht⟩
  rw [lx_f.1]
  have H6 := Lib.hid ht
  clear ht H5
  go_wp2_with fail
  (with_reducible refine (H6.out.xfind tt_rep 2 (by decide) lx_wf).mono ?_)
  rintro e w8 ⟨rfl, ht⟩
  rw [lx_f.2.1]
  have H7 := Lib.hid ht
  clear ht H6
  go_wp2_with fail
  (with_reducible refine (H7.out.xseek tt_rep 9 (by decide) lx_wf).mono ?_)
  rintro e w9 ⟨rfl, ht⟩
  rw [lx_f.2.2.1]
  have H8 := Lib.hid ht
  clear ht H7
  go_wp2_with fail
  (with_reducible refine (H8.out.xseek tt_rep 10 (by decide) lx_wf).mono ?_)
  rintro e w10 ⟨rfl, ht⟩
  rw [lx_f.2.2.2]
  have H9 := Lib.hid ht
  clear ht H8
  go_wp2_with fail
  go_ret
  exact ⟨rfl, H9.out.bel⟩
theorem add_nil (o p t : Int) (W : World) : Calls Try.prog 10 #[.pointer none, .int .i64 o, .int .i64 p, .int .i64 t] W (Good W (.int .i64 1)) := by
  go_enter Try.func10, Try.ntmps10
  go_wp2
  go_ret
  exact ⟨rfl, Below.refl _ _⟩
set_option maxHeartbeats 8000000 in
set_option maxRecDepth 100000 in
theorem indexNil_walk (e : En) (W : World) : Calls Try.prog 4 #[.agg #[.int .i64 e.1, .int .i64 e.2.1, .int .i64 e.2.2]] W (Yes W) := by
  obtain ⟨o, p, t⟩ := e
  simp only
  have hbx := Box.new W 35 #[.int .i64 o, .int .i64 p, .int .i64 t]
  have HB := Lib.hid ((Below.refl W.heap.size W).alloc (Nat.le_refl _) (.cells #[.int .i64 o, .int .i64 p, .int .i64 t] 35))
  have HX := Lib.hid hbx
  have n0 := fun w => new_c 0 w
  unfold GotNew at n0
  clear hbx
  go_enter Try.func4, Try.ntmps4
  go_wp2_with fail
  (with_reducible refine (n0 _).mono ?_)
  rintro e w2 ⟨hn, _⟩
  obtain ⟨rfl, hw⟩ := hn (by omega)
  have hw' := hw.symm
  subst hw'
  clear hn hw n0
  go_wp2_with fail
  (with_reducible refine (add_nil o p t _).mono ?_)
  rintro e w3 ⟨rfl, hb⟩
  have H3 := Lib.hid (And.intro (HB.out.trans (hb.mono HB.out.size)) (HX.out.later hb))
  clear hb HX HB
  have y0 := (H3.out.2.cell 0).trans (show _ = some (Value.int .i64 o) from rfl)
  have y2 := (H3.out.2.cell 2).trans (show _ = some (Value.int .i64 t) from rfl)
  go_wp2_with fail
  (with_reducible refine (find_nil o _).mono ?_)
  rintro e w4 ⟨rfl, hb⟩
  have H4 := Lib.hid (And.intro (H3.out.1.trans (hb.mono H3.out.1.size)) (H3.out.2.later hb))
  clear hb H3 y0 y2
  have y2 := (H4.out.2.cell 2).trans (show _ = some (Value.int .i64 t) from rfl)
  go_wp2_with fail
  (with_reducible refine (seek_nil t _).mono ?_)
  rintro e w5 ⟨rfl, hb⟩
  have H5 := Lib.hid (H4.out.1.trans (hb.mono H4.out.1.size))
  clear hb H4 y2
  go_wp2_with fail
  (with_reducible refine (entries_nil _).mono ?_)
  rintro e w6 ⟨A, c, rfl, _, hb⟩
  have H6 := Lib.hid (H5.out.trans (hb.mono H5.out.size))
  clear hb H5
  go_wp2_with fail
  (with_reducible refine (live9_c _).mono ?_)
  rintro e w7 ⟨rfl, hb⟩
  have H7 := Lib.hid (H6.out.trans (hb.mono H6.out.size))
  clear hb H6
  go_wp2_with fail
  go_ret
  exact ⟨rfl, H7.out⟩
end Go.Proofs.Ytljgiabaekddlaa
