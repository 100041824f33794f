/- expr: the document's Same and the statements' small, by contracts. -/
import Derived.Test.YtneholfghffpfaaExSame
import Derived.Test.YtneholfghffpfaaExChk
namespace Go.Proofs.Ytneholfghffpfaa
open Go.RowKit
set_option linter.unusedVariables false
set_option maxHeartbeats 1000000 in
set_option maxRecDepth 100000 in
theorem rSame_c (ok : Nat → Prop) (d : Nat) (t : Tr) (A B : Option Addr) (c e : Nat) (W : World) (hd : d ≤ 59) (hA : TrAt ok W d A t) (hB : TrAt ok W d B t) :
    Calls Try.prog 21 #[exV t A c, exV t B e] W (Good W (.bool true)) := by
  have hs : ∀ w, TrAt ok w d A t → TrAt ok w d B t → Calls Try.prog 37 #[exV t A c, exV t B e, .int .i64 60] w (Good w (.bool true)) := fun w h1 h2 => same_c ok d 59 t A B c e w hd (by omega) h1 h2
  have HA := Lib.hid hA
  have HB := Lib.hid hB
  clear hA hB
  have HS := Lib.hid (SmB.start W t A B c e)
  obtain ⟨⟨c0, c1, c2, c3⟩, e0, e1, e2, e3⟩ := HS.out.cells
  unfold exV exC at *
  go_enter Try.func21, Try.ntmps21
  go_wp2_with fail
  with_reducible refine (hs _ (HA.out.below HS.out.bel) (HB.out.below HS.out.bel)).mono ?_
  rintro en w1 ⟨rfl, hb1⟩
  have HS1 := Lib.hid (HS.out.later hb1)
  clear hb1 c0 c1 c2 c3 e0 e1 e2 e3 hs HS
  go_wp2_with fail
  go_ret
  exact ⟨rfl, HS1.out.bel⟩
def smallB (t : Tr) : Bool := decide (sizeG t ≤ 40) && decide (depthG t ≤ 20)
set_option maxHeartbeats 1000000 in
set_option maxRecDepth 100000 in
theorem small6_c (ok : Nat → Prop) (d : Nat) (t : Tr) (A : Option Addr) (c : Nat) (W : World) (hT : TrAt ok W d A t) :
    Calls Try.prog 9 #[exV t A c] W (Good W (.bool (smallB t))) := by
  have hs := fun w h => rSize_c ok d t A c w h
  have hd := fun w h => rDepth_c ok d t A c w h
  generalize hR : smallB t = R
  unfold smallB at hR
  have HT := Lib.hid hT
  clear hT
  have HB := Lib.hid (Boxed.start W t A c)
  obtain ⟨c0, c1, c2, c3⟩ := HB.out.cells
  unfold exV exC at *
  generalize sizeG t = sg at *
  generalize depthG t = dg at *
  by_cases h40 : sg ≤ 40
  · have HR : Hid (R = decide (dg ≤ 20)) := Lib.hid (by rw [← hR, decide_eq_true h40, Bool.true_and])
    clear hR
    go_enter Try.func9, Try.ntmps9
    go_wp2_with fail
    with_reducible refine (hs _ (HT.out.below HB.out.bel)).mono ?_
    rintro en w1 ⟨rfl, hb1⟩
    have HB1 := Lib.hid (HB.out.later hb1)
    obtain ⟨d0, d1, d2, d3⟩ := HB1.out.cells
    clear hb1 c0 c1 c2 c3 hs
    go_wp2_with fail
    with_reducible refine (hd _ (HT.out.below HB1.out.bel)).mono ?_
    rintro en w2 ⟨rfl, hb2⟩
    have HB2 := Lib.hid (HB1.out.later hb2)
    clear hb2 d0 d1 d2 d3 hd HB1
    go_wp2_with fail
    go_ret
    rw [HR.out]
    exact ⟨rfl, HB2.out.bel⟩
  · have HR : Hid (R = false) := Lib.hid (by rw [← hR, decide_eq_false h40, Bool.false_and])
    clear hR
    go_enter Try.func9, Try.ntmps9
    go_wp2_with fail
    with_reducible refine (hs _ (HT.out.below HB.out.bel)).mono ?_
    rintro en w1 ⟨rfl, hb1⟩
    have HB1 := Lib.hid (HB.out.later hb1)
    clear hb1 c0 c1 c2 c3 hs hd
    go_wp2_with fail
    go_ret
    rw [HR.out]
    exact ⟨rfl, HB1.out.bel⟩
end Go.Proofs.Ytneholfghffpfaa
