/- The document's reader, method by method: what it returns, and what becomes of the reader. -/
import Derived.Test.YtnpfakjgocnkbaaRdBox
import Derived.Test.YtnpfakjgocnkbaaRTake
import Derived.BigQuiet
import Derived.Deep.QuietTactic
import Derived.Deep.RegionWith
namespace Go.Proofs.Ytnpfakjgocnkbaa
open Go.RowKit
set_option linter.unusedVariables false
set_option maxHeartbeats 2000000 in
set_option maxRecDepth 100000 in
theorem rrdn_c (s : ByteArray) (q e : Int) (b : Nat) (W : World) (hs : s.size ≤ 1152921504606846976) (h : Box W b 79 (rdC s q e)) :
    Calls Try.prog 46 #[.pointer (some ⟨b, 0, none⟩)] W (Moved W b 79 (.int .i64 (rdN s q e).1) s (rdN s q e).2.1 (rdN s q e).2.2) := by
  obtain ⟨c0, c1, c2, f1, f2⟩ := h.rd0
  by_cases he : e = 0
  · have hg := fun w => rget_c s q w hs
    have hr : rdN s q e = getG s q := by unfold rdN; rw [if_pos he]
    rw [hr]
    clear hr
    subst he
    have HB := Lib.hid h
    clear h
    generalize (getG s q).1 = n at *
    generalize (getG s q).2.1 = p at *
    generalize (getG s q).2.2 = er at *
    unfold Tri at hg
    go_enter Try.func46, Try.ntmps46
    go_wp2
    go_region_with (go_at_call 56; (with_reducible refine (hg _).mono ?_); rintro e w1 ⟨rfl, hb1⟩)
    all_goals
      have HB1 : Hid (Box w1 b 79 (rdC s q 0)) := Lib.hid (HB.out.drew.later hb1)
      obtain ⟨d0, d1, d2, g1, g2⟩ := HB1.out.rd0
      go_wp2
      go_ret
      exact ⟨rfl, rdC_set2 HB1.out, ((((Off.refl (· = b) W).drew).later hb1).set (.inl rfl) _).set (.inl rfl) _⟩
  · rw [rdN_err he]
    have HB := Lib.hid h
    have e1 : (e == 0) = false := by rw [beq_eq_false_iff_ne]; exact he
    have e2 : (e != 0) = true := by simpa using he
    clear h he
    go_enter Try.func46, Try.ntmps46
    go_wp2
    go_ret
    exact ⟨rfl, HB.out, Off.refl (· = b) W⟩
set_option maxHeartbeats 2000000 in
set_option maxRecDepth 100000 in
theorem rrdt_c (s : ByteArray) (q e m : Int) (b : Nat) (W : World) (hs : s.size ≤ 1152921504606846976) (h : Box W b 79 (rdC s q e)) :
    Calls Try.prog 35 #[.pointer (some ⟨b, 0, none⟩), .int .i64 m] W (Moved W b 79 (.string (rdT s m q e).1) s (rdT s m q e).2.1 (rdT s m q e).2.2) := by
  obtain ⟨c0, c1, c2, f1, f2⟩ := h.rd0
  by_cases he : e = 0
  · have hg := fun w => rtake_c s q m w hs
    have hr : rdT s m q e = takeG s q m := by unfold rdT; rw [if_pos he]
    rw [hr]
    clear hr
    subst he
    have HB := Lib.hid h
    clear h
    generalize (takeG s q m).1 = n at *
    generalize (takeG s q m).2.1 = p at *
    generalize (takeG s q m).2.2 = er at *
    unfold Sri at hg
    go_enter Try.func35, Try.ntmps35
    go_wp2
    go_region_with (go_at_call 47; (with_reducible refine (hg _).mono ?_); rintro e w1 ⟨rfl, hb1⟩)
    all_goals
      have HB1 : Hid (Box w1 b 79 (rdC s q 0)) := Lib.hid (HB.out.drew.later hb1)
      obtain ⟨d0, d1, d2, g1, g2⟩ := HB1.out.rd0
      go_wp2
      go_ret
      exact ⟨rfl, rdC_set2 HB1.out, ((((Off.refl (· = b) W).drew).later hb1).set (.inl rfl) _).set (.inl rfl) _⟩
  · rw [rdT_err he]
    have HB := Lib.hid h
    have e1 : (e == 0) = false := by rw [beq_eq_false_iff_ne]; exact he
    have e2 : (e != 0) = true := by simpa using he
    clear h he
    go_enter Try.func35, Try.ntmps35
    go_wp2
    go_ret
    exact ⟨rfl, HB.out, Off.refl (· = b) W⟩
end Go.Proofs.Ytnpfakjgocnkbaa
