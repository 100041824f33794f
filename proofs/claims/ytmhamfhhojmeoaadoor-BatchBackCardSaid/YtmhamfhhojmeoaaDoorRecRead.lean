/- The program's reader, method by method: what it returns, and what becomes of the reader. -/
import Derived.Test.YtmhamfhhojmeoaaDoorRecMay
import Derived.Test.YtmhamfhhojmeoaaDoorRdBox
import Derived.Test.YtmhamfhhojmeoaaDoorPTake
import Derived.BigQuiet
import Derived.Deep.QuietTactic
namespace Go.Proofs.YtmhamfhhojmeoaaDoor
open Go.RowKit
set_option linter.unusedVariables false
set_option maxHeartbeats 1000000 in
set_option maxRecDepth 100000 in
theorem prdn_c (s : ByteArray) (q e : Int) (b : Nat) (W : World) (hs : s.size ≤ 1152921504606846976) (h : Box W b 101 (rdC s q e)) :
    Calls Tryd.prog 71 #[.pointer (some ⟨b, 0, none⟩)] W (Moved W b 101 (.int .i64 (rdN s q e).1) s (rdN s q e).2.1 (rdN s q e).2.2) := by
  obtain ⟨c0, c1, c2, f1, f2⟩ := h.rd0
  by_cases he : e = 0
  · have hg := fun w => get_c s q w hs
    have hr : rdN s q e = getG s q := by unfold rdN; rw [if_pos he]
    rw [hr]
    clear hr
    subst he
    have HB := Lib.hid h
    clear h
    generalize (getG s q).1 = n at *
    generalize (getG s q).2.1 = p at *
    generalize (getG s q).2.2 = er at *
    unfold Tri at hg
    go_enter Tryd.func71, Tryd.ntmps71
    go_wp2
    go_quiet ((go_at_call 52; exact Calls.quiet_of ((hg _).mono fun _ _ ⟨h1, h2⟩ => ⟨h1, 0, h2.symm⟩)))
    go_wp2
    go_ret
    exact ⟨rfl, ((HB.out.drewN nq).set 1 _).set 2 _, (((Off.refl (· = b) W).drewN nq).set (.inl rfl) _).set (.inl rfl) _⟩
  · rw [rdN_err he]
    have HB := Lib.hid h
    have e1 : (e == 0) = false := by rw [beq_eq_false_iff_ne]; exact he
    have e2 : (e != 0) = true := by simpa using he
    clear h he
    go_enter Tryd.func71, Tryd.ntmps71
    go_wp2
    go_ret
    exact ⟨rfl, HB.out, Off.refl (· = b) W⟩
set_option maxHeartbeats 1000000 in
set_option maxRecDepth 100000 in
theorem prdt_c (s : ByteArray) (q e : Int) (b : Nat) (W : World) (hs : s.size ≤ 1152921504606846976) (h : Box W b 101 (rdC s q e)) :
    Calls Tryd.prog 72 #[.pointer (some ⟨b, 0, none⟩)] W (Moved W b 101 (.string (rdT s 1000 q e).1) s (rdT s 1000 q e).2.1 (rdT s 1000 q e).2.2) := by
  obtain ⟨c0, c1, c2, f1, f2⟩ := h.rd0
  by_cases he : e = 0
  · have hg := fun w => take_c s q 1000 w hs (by decide)
    have hr : rdT s 1000 q e = takeG s q 1000 := by unfold rdT; rw [if_pos he]
    rw [hr]
    clear hr
    subst he
    have HB := Lib.hid h
    clear h
    generalize (takeG s q 1000).1 = n at *
    generalize (takeG s q 1000).2.1 = p at *
    generalize (takeG s q 1000).2.2 = er at *
    unfold Sri at hg
    go_enter Tryd.func72, Tryd.ntmps72
    go_wp2
    go_region_with (go_at_call 78; (with_reducible refine (hg _).mono ?_); rintro e w1 ⟨rfl, hb1⟩)
    all_goals
      have HB1 : Hid (Box w1 b 101 (rdC s q 0)) := Lib.hid (HB.out.drew.later hb1)
      obtain ⟨d0, d1, d2, g1, g2⟩ := HB1.out.rd0
      go_wp2
      go_ret
      exact ⟨rfl, (HB1.out.set 1 _).set 2 _, ((((Off.refl (· = b) W).drew).later hb1).set (.inl rfl) _).set (.inl rfl) _⟩
  · rw [rdT_err he]
    have HB := Lib.hid h
    have e1 : (e == 0) = false := by rw [beq_eq_false_iff_ne]; exact he
    have e2 : (e != 0) = true := by simpa using he
    clear h he
    go_enter Tryd.func72, Tryd.ntmps72
    go_wp2
    go_ret
    exact ⟨rfl, HB.out, Off.refl (· = b) W⟩
set_option maxHeartbeats 1000000 in
set_option maxRecDepth 100000 in
theorem pdem_c (s : ByteArray) (q e : Int) (r : Bool) (b : Nat) (W : World) (h : Box W b 101 (rdC s q e)) :
    Calls Tryd.prog 74 #[.pointer (some ⟨b, 0, none⟩), .bool r] W (Done W b 101 s q (dem e r)) := by
  obtain ⟨c0, c1, c2, f1, f2⟩ := h.rd0
  have HB := Lib.hid h
  clear h
  by_cases he : e = 0
  · subst he
    cases r with
    | true =>
      have hd : Hid (dem 0 true = 0) := Lib.hid rfl
      go_enter Tryd.func74, Tryd.ntmps74
      go_wp2
      go_end0
      exact ⟨rfl, by rw [hd.out]; exact HB.out, Off.refl (· = b) W⟩
    | false =>
      have hd : Hid (dem 0 false = 3) := Lib.hid rfl
      go_enter Tryd.func74, Tryd.ntmps74
      go_wp2
      go_end0
      exact ⟨rfl, by rw [hd.out]; exact HB.out.set 2 _, (Off.refl (· = b) W).set (.inl rfl) _⟩
  · have hd : Hid (dem e r = e) := Lib.hid (by unfold dem; rw [if_neg (fun x => he x.1)])
    have e1 : (e == 0) = false := by rw [beq_eq_false_iff_ne]; exact he
    have e2 : (e != 0) = true := by simpa using he
    clear he
    go_enter Tryd.func74, Tryd.ntmps74
    go_wp2
    go_end0
    exact ⟨rfl, by rw [hd.out]; exact HB.out, Off.refl (· = b) W⟩
end Go.Proofs.YtmhamfhhojmeoaaDoor
