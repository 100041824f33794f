/- expr: the readers' texts, the program's and the document's, by contracts. -/
import Derived.Test.YtneholfghffpfaaExRd
import Derived.Test.YtneholfghffpfaaRd
import Derived.Test.YtneholfghffpfaaPTake
import Derived.Test.YtneholfghffpfaaRTake
import Derived.BigQuiet
import Derived.Deep.QuietTactic
import Derived.Deep.RegionWith
namespace Go.Proofs.Ytneholfghffpfaa
open Go.RowKit
set_option linter.unusedVariables false
set_option maxHeartbeats 1000000 in
set_option maxRecDepth 100000 in
theorem xtext_c (s : ByteArray) (q n e : Int) (b : Nat) (W : World) (hs : s.size ≤ 1152921504606846976) (h : Box W b 56 (xrC s q n e)) :
    Calls Try.prog 46 #[.pointer (some ⟨b, 0, none⟩)] W (Xread W b 56 (.string (rdT s 1000 q e).1) s (rdT s 1000 q e).2.1 n (rdT s 1000 q e).2.2) := by
  obtain ⟨c0, c1, c2, c3, f0, f1, f2, f3⟩ := h.xr
  by_cases he : e = 0
  · have hg := fun w => take_c s q 1000 w hs (by decide)
    have hr : rdT s 1000 q e = takeG s q 1000 := by unfold rdT; rw [if_pos he]
    rw [hr]
    clear hr
    subst he
    have HB := Lib.hid h
    clear h
    generalize (takeG s q 1000).1 = tx at *
    generalize (takeG s q 1000).2.1 = p at *
    generalize (takeG s q 1000).2.2 = er at *
    unfold Sri at hg
    go_enter Try.func46, Try.ntmps46
    go_wp2
    go_region_with (go_at_call 54; (with_reducible refine (hg _).mono ?_); rintro e w1 ⟨rfl, hb1⟩)
    all_goals
      have HB1 : Hid (Box w1 b 56 (xrC s q n 0)) := Lib.hid (HB.out.drew.later hb1)
      obtain ⟨d0, d1, d2, d3, g0, g1, g2, g3⟩ := HB1.out.xr
      go_wp2
      go_ret
      exact ⟨rfl, (HB1.out.set 1 _).set 3 _, ((((Off.refl (· = b) W).drew).later hb1).set (.inl rfl) _).set (.inl rfl) _⟩
  · rw [rdT_err he]
    have HB := Lib.hid h
    have e1 : (e == 0) = false := by rw [beq_eq_false_iff_ne]; exact he
    have e2 : (e != 0) = true := by simpa using he
    clear h he
    go_enter Try.func46, Try.ntmps46
    go_wp2
    go_ret
    exact ⟨rfl, HB.out, Off.refl (· = b) W⟩
set_option maxHeartbeats 1000000 in
set_option maxRecDepth 100000 in
theorem rword_c (s : ByteArray) (q n e : Int) (b : Nat) (W : World) (hs : s.size ≤ 1152921504606846976) (h : Box W b 61 (xrC s q n e)) :
    Calls Try.prog 48 #[.pointer (some ⟨b, 0, none⟩)] W (Xread W b 61 (.string (rdT s 1000 q e).1) s (rdT s 1000 q e).2.1 n (rdT s 1000 q e).2.2) := by
  obtain ⟨c0, c1, c2, c3, f0, f1, f2, f3⟩ := h.xr
  by_cases he : e = 0
  · have hg := fun w => rtake_c s q 1000 w hs
    have hr : rdT s 1000 q e = takeG s q 1000 := by unfold rdT; rw [if_pos he]
    rw [hr]
    clear hr
    subst he
    have HB := Lib.hid h
    clear h
    generalize (takeG s q 1000).1 = tx at *
    generalize (takeG s q 1000).2.1 = p at *
    generalize (takeG s q 1000).2.2 = er at *
    unfold Sri at hg
    go_enter Try.func48, Try.ntmps48
    go_wp2
    go_region_with (go_at_call 55; (with_reducible refine (hg _).mono ?_); rintro e w1 ⟨rfl, hb1⟩)
    all_goals
      have HB1 : Hid (Box w1 b 61 (xrC s q n 0)) := Lib.hid (HB.out.drew.later hb1)
      obtain ⟨d0, d1, d2, d3, g0, g1, g2, g3⟩ := HB1.out.xr
      go_wp2
      go_ret
      exact ⟨rfl, (show Box _ b 61 (xrC s p n er) from (HB1.out.set 3 _).set 1 _), ((((Off.refl (· = b) W).drew).later hb1).set (.inl rfl) _).set (.inl rfl) _⟩
  · rw [rdT_err he]
    have HB := Lib.hid h
    have e1 : (e == 0) = false := by rw [beq_eq_false_iff_ne]; exact he
    have e2 : (e != 0) = true := by simpa using he
    clear h he
    go_enter Try.func48, Try.ntmps48
    go_wp2
    go_ret
    exact ⟨rfl, HB.out, Off.refl (· = b) W⟩
end Go.Proofs.Ytneholfghffpfaa
