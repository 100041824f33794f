/- idem: the reader's number, by a contract. No condition. -/
import Derived.Test.YtdhakekndinbeaaImG
import Derived.Test.YtdhakekndinbeaaRdBox
import Derived.Test.YtdhakekndinbeaaPGet
namespace Go.Proofs.Ytdhakekndinbeaa
open Go.RowKit
set_option linter.unusedVariables false
/-- The next number, that has to be within bounds; the place, the error. -/
def nuI (s : ByteArray) (l m q e : Int) : Int × Int × Int :=
  if e = 0 then (if (getG s q).2.2 = 0 then (if witB (getG s q).1 l m = true then ((getG s q).1, (getG s q).2.1, 0) else (0, q, 3)) else (0, q, (getG s q).2.2)) else (0, q, e)
theorem r2_later {w w' : World} {b : Nat} {u v : Value} (h : w.cell? ⟨b, 0, none⟩ = some u ∧ w.cell? ⟨b, 1, none⟩ = some v ∧ b < w.heap.size) (hb : Below w.heap.size w w') :
    w'.cell? ⟨b, 0, none⟩ = some u ∧ w'.cell? ⟨b, 1, none⟩ = some v ∧ b < w'.heap.size :=
  ⟨(hb.cell (p := ⟨b, 0, none⟩) h.2.2).trans h.1, (hb.cell (p := ⟨b, 1, none⟩) h.2.2).trans h.2.1, Nat.lt_of_lt_of_le h.2.2 hb.size⟩
set_option maxHeartbeats 8000000 in
set_option maxRecDepth 100000 in
theorem inum_c (b : Nat) (s : ByteArray) (q e l m : Int) (W : World) (h : Box W b 79 (rdC s q e)) (hs : s.size ≤ 1152921504606846976) :
    Calls Try.prog 43 #[.pointer (some ⟨b, 0, none⟩), .int .i64 l, .int .i64 m] W (Moved W b 79 (.int .i64 (nuI s l m q e).1) s (nuI s l m q e).2.1 (nuI s l m q e).2.2) := by
  obtain ⟨x0, x1, x2, _, _⟩ := h.rd0
  have hlt := h.lt
  unfold nuI
  by_cases he : e = 0
  · subst he
    rw [if_pos rfl]
    have cg := fun w => get_c s q w hs
    generalize getG s q = g at *
    obtain ⟨n, p, er⟩ := g
    simp only at cg ⊢
    unfold Tri at cg
    have cw := fun w => within_c n l m w
    have H0 := Lib.hid h
    clear h
    have hS := And.intro x0 (And.intro x1 hlt)
    clear x0 x1
    by_cases hr : er = 0
    · subst hr
      rw [if_pos rfl]
      cases hw : witB n l m with
      | true =>
        rw [hw] at cw
        rw [if_pos rfl]
        clear hw
        go_enter Try.func43, Try.ntmps43
        go_wp2_with fail
        go_region_held3 (fun w => w.cell? ⟨b, 0, none⟩ = some (.string s) ∧ w.cell? ⟨b, 1, none⟩ = some (.int .i64 q) ∧ b < w.heap.size) (first | exact hS | exact r2_later hS hbA)
          (first | ((with_reducible refine (cg _).mono ?_); rintro en w4 ⟨rfl, hw4⟩; have hbA : Below W.heap.size W w4 := hw4 ▸ (Below.refl _ W).drew))
        all_goals
          have HX4 := Lib.hid (H0.out.later hbA)
          have HO4 := Lib.hid (Off.of_below (fun k => k = b) hbA)
          obtain ⟨y0, y1, y2, f1, f2⟩ := HX4.out.rd0
          have hlt4 := HX4.out.lt
          clear hbA hw4
          go_wp2_with (((with_reducible refine (cw _).mono ?_); rintro en w5 ⟨rfl, hw5⟩; (have hw5' := hw5.symm; subst hw5')))
          go_ret
          exact ⟨rfl, HX4.out.set 1 _, HO4.out.set (.inl rfl) _⟩
      | false =>
        rw [hw] at cw
        rw [if_neg (by decide)]
        clear hw
        go_enter Try.func43, Try.ntmps43
        go_wp2_with fail
        go_region_held3 (fun w => w.cell? ⟨b, 0, none⟩ = some (.string s) ∧ w.cell? ⟨b, 1, none⟩ = some (.int .i64 q) ∧ b < w.heap.size) (first | exact hS | exact r2_later hS hbA)
          (first | ((with_reducible refine (cg _).mono ?_); rintro en w4 ⟨rfl, hw4⟩; have hbA : Below W.heap.size W w4 := hw4 ▸ (Below.refl _ W).drew))
        all_goals
          have HX4 := Lib.hid (H0.out.later hbA)
          have HO4 := Lib.hid (Off.of_below (fun k => k = b) hbA)
          obtain ⟨y0, y1, y2, f1, f2⟩ := HX4.out.rd0
          have hlt4 := HX4.out.lt
          clear hbA hw4
          go_wp2_with (((with_reducible refine (cw _).mono ?_); rintro en w5 ⟨rfl, hw5⟩; (have hw5' := hw5.symm; subst hw5')))
          go_ret
          exact ⟨rfl, HX4.out.set 2 _, HO4.out.set (.inl rfl) _⟩
    · rw [if_neg hr]
      have hr1 : (er == (0 : Int)) = false := by simp [hr]
      clear hr
      go_enter Try.func43, Try.ntmps43
      go_wp2_with fail
      go_region_held3 (fun w => w.cell? ⟨b, 0, none⟩ = some (.string s) ∧ w.cell? ⟨b, 1, none⟩ = some (.int .i64 q) ∧ b < w.heap.size) (first | exact hS | exact r2_later hS hbA)
        (first | ((with_reducible refine (cg _).mono ?_); rintro en w4 ⟨rfl, hw4⟩; have hbA : Below W.heap.size W w4 := hw4 ▸ (Below.refl _ W).drew))
      all_goals
        have HX4 := Lib.hid (H0.out.later hbA)
        have HO4 := Lib.hid (Off.of_below (fun k => k = b) hbA)
        obtain ⟨y0, y1, y2, f1, f2⟩ := HX4.out.rd0
        have hlt4 := HX4.out.lt
        clear hbA hw4
        go_wp2_with (fail)
        go_ret
        exact ⟨rfl, HX4.out.set 2 _, HO4.out.set (.inl rfl) _⟩
  · rw [if_neg he]
    have he1 : (e == (0 : Int)) = false := by simp [he]
    go_enter Try.func43, Try.ntmps43
    go_wp2_with fail
    go_ret
    exact ⟨rfl, h, Off.refl _ _⟩
end Go.Proofs.Ytdhakekndinbeaa
