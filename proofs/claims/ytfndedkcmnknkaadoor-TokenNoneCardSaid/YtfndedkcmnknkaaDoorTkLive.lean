/- The law's own examples. Condition: the tables of utf8. -/
import Derived.Test.YtfndedkcmnknkaaDoorTkHas
import Derived.Test.YtfndedkcmnknkaaDoorTkRef2
namespace Go.Proofs.YtfndedkcmnknkaaDoor
open Go.RowKit
set_option linter.unusedVariables false
def Yes (W : World) (e : Ending) (w' : World) : Prop := e = .returned (.bool true) ∧ Below W.heap.size W w'
theorem words_c (L : List UInt8) (hl : L.length ≤ 140737488351232) (hn : (TK.words L).length ≤ 8000000000) (w : World) (hT : Tabs w) : Calls Tryd.prog 12 #[.string (bs L)] w (RowOut w (TK.words L)) :=
  (callsIn_wide (n := 9)).1 (words_in L hl hn w hT)
theorem has_c (L wd : List UInt8) (hl : L.length ≤ 140737488351232) (hw : wd.length ≤ 140737488351232) (w : World) (hT : Tabs w) : Calls Tryd.prog 15 #[.string (bs L), .string (bs wd)] w (Good w (.bool (hasB L wd))) :=
  (callsIn_wide (n := 9)).1 (has_in L wd hl hw w hT)
theorem three_own (W : World) (a b c : Value) : (W.alloc (.cells #[a, b, c] 9)).ownsRow W.heap.size 9 1 (.slice (some ⟨W.heap.size, 0, none⟩) 3 3) 3 [a, b, c] :=
  ⟨by simp, .inr ⟨W.heap.size, 3, #[a, b, c], rfl, Nat.le_refl _, heap_alloc_new W _, Nat.le_refl _, by decide, rfl, rfl⟩⟩
set_option maxHeartbeats 4000000 in
set_option maxRecDepth 100000 in
theorem live_c (W : World) (hT : Tabs W) : Calls Tryd.prog 11 #[] W (Yes W) := by
  have c1 : Calls Tryd.prog 12 #[.string { data := #[70, 111, 111, 44, 32, 98, 97, 114, 57, 32, 70, 79, 79] }] W (RowOut W [[102, 111, 111], [98, 97, 114, 57], [102, 111, 111]]) := by
    have h := words_c [70, 111, 111, 44, 32, 98, 97, 114, 57, 32, 70, 79, 79] (by decide) (by rw [TK.words_foo]; decide) W hT
    rw [TK.words_foo] at h
    exact h
  have c2 : ∀ w, Tabs w → Calls Tryd.prog 15 #[.string { data := #[70, 111, 111, 44, 32, 98, 97, 114, 57] }, .string { data := #[66, 97, 114, 57] }] w (Good w (.bool true)) := fun w h => by
    have h := has_c [70, 111, 111, 44, 32, 98, 97, 114, 57] [66, 97, 114, 57] (by decide) (by decide) w h
    have e : hasB [70, 111, 111, 44, 32, 98, 97, 114, 57] [66, 97, 114, 57] = true := by unfold hasB; rw [TK.words_foo2]; decide
    rw [e] at h
    exact h
  have c3 : ∀ w, Tabs w → Calls Tryd.prog 15 #[.string { data := #[98, 97, 114, 57] }, .string { data := #[98, 97] }] w (Good w (.bool false)) := fun w h => by
    have h := has_c [98, 97, 114, 57] [98, 97] (by decide) (by decide) w h
    have e : hasB [98, 97, 114, 57] [98, 97] = false := by unfold hasB; rw [TK.words_bar]; decide
    rw [e] at h
    exact h
  have c4 : ∀ w, Calls Tryd.prog 9 #[.string { data := #[65, 98, 90, 91] }] w (Good w (.string { data := #[97, 98, 122, 91] })) := fun w => fold_c [65, 98, 90, 91] w (by decide)
  go_enter Tryd.func11, Tryd.ntmps11
  go_wp2_with fail
  (with_reducible refine c1.mono ?_)
  rintro e w1 ⟨v, rfl, hr1, hb1⟩
  have hc5 := tsame_c [[102, 111, 111], [98, 97, 114, 57], [102, 111, 111]] _ _ v (.slice (some ⟨w1.heap.size, 0, none⟩) 3 3) (w1.alloc (.cells #[.string { data := #[102, 111, 111] }, .string { data := #[98, 97, 114, 57] }, .string { data := #[102, 111, 111] }] 9))
    (own_below hr1 ((Below.refl _ _).alloc (Nat.le_refl _) _)) (three_own w1 _ _ _) (by decide)
  have HB1 := Lib.hid (hb1.alloc hb1.size (.cells #[.string { data := #[102, 111, 111] }, .string { data := #[98, 97, 114, 57] }, .string { data := #[102, 111, 111] }] 9))
  clear hr1 hb1 c1
  go_wp2_with fail
  (with_reducible refine hc5.mono ?_)
  rintro e w2 ⟨rfl, hb2⟩
  have HB2 := Lib.hid (HB1.out.trans (hb2.mono HB1.out.size))
  clear hb2 hc5 HB1
  go_wp2_with fail
  (with_reducible refine (c2 _ (hT.below HB2.out)).mono ?_)
  rintro e w3 ⟨rfl, hb3⟩
  have HB3 := Lib.hid (HB2.out.trans (hb3.mono HB2.out.size))
  clear hb3 HB2 c2
  go_wp2_with fail
  (with_reducible refine (c3 _ (hT.below HB3.out)).mono ?_)
  rintro e w4 ⟨rfl, hb4⟩
  have HB4 := Lib.hid (HB3.out.trans (hb4.mono HB3.out.size))
  clear hb4 HB3 c3
  go_wp2_with fail
  (with_reducible refine (c4 _).mono ?_)
  rintro e w5 ⟨rfl, hb5⟩
  have HB5 := Lib.hid (HB4.out.trans (hb5.mono HB4.out.size))
  clear hb5 HB4 c4
  go_wp2
  go_ret
  exact ⟨rfl, HB5.out⟩
end Go.Proofs.YtfndedkcmnknkaaDoor
