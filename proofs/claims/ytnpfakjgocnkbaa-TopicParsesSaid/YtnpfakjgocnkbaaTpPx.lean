/- topic: the law TopicParses walks to true. No condition. -/
import Derived.Test.YtnpfakjgocnkbaaTpDw
import Derived.Test.YtnpfakjgocnkbaaTpRl
import Derived.Test.YtnpfakjgocnkbaaTpPr
import Derived.Test.YtnpfakjgocnkbaaTpLv
namespace Go.Proofs.Ytnpfakjgocnkbaa
open Go.RowKit
set_option linter.unusedVariables false
set_option maxHeartbeats 16000000 in
set_option maxRecDepth 100000 in
theorem topicParses_walk (s : ByteArray) (W : World) (hs : s.size ≤ 140737488351232) : Calls Try.prog 4 #[.string s] W (Yes W) := by
  have cl := fun w => live_c w
  unfold Yes at cl
  have hs2 : s.size ≤ 1152921504606846976 := by omega
  have cp := tparse_c s W hs2
  have cr := fun w => rparse_c s w hs2
  by_cases hz : paT s = 0
  · obtain ⟨e1, e2⟩ := print_parse hz
    obtain ⟨t, ht⟩ : ∃ t : TS, ((tbT s).1, (tbT s).2.1) = t := ⟨_, rfl⟩
    rw [ht] at e1 e2 cp
    have HT1 : Hid ((tbT s).1 = t.1 ∧ (tbT s).2.1 = t.2) := Lib.hid (by rw [← ht]; exact ⟨rfl, rfl⟩)
    have HZ := Lib.hid hz
    have HE := Lib.hid e1
    have HOK := Lib.hid e2
    have hmany := e2.many
    have hN : ∀ e ∈ t.2, e.name.length ≤ 140737488351232 := fun e he => by have := (e2.names e he).2; omega
    have HNM := Lib.hid hN
    clear hz e1 e2 ht hN
    go_enter Try.func4, Try.ntmps4
    go_wp2_with fail
    with_reducible refine cp.mono ?_
    rintro en w1 (⟨h0, _⟩ | ⟨_, p, rfl, h1, _, hb1⟩)
    · exact absurd HZ.out h0
    have H1 := Lib.hid h1
    have HB1 := Lib.hid hb1
    clear cp h1 hb1
    go_wp2_with fail
    with_reducible refine (cr _).mono ?_
    rintro en w2 (⟨h0, _⟩ | ⟨_, q, A, c, rfl, hR, hb2⟩)
    · exact absurd HZ.out h0
    rw [HT1.out.1, HT1.out.2] at hR
    have HR := Lib.hid hR
    obtain ⟨m, a1, _, _⟩ := H1.out.later hb2
    have HA := Lib.hid a1
    have HB2 := Lib.hid (HB1.out.trans (hb2.mono HB1.out.size))
    have c3 := tprint_c p m t w2 a1 HOK.out
    rw [HE.out] at c3
    unfold dp at c3
    clear cr hR hb2 a1 H1 HB1
    go_wp2_with fail
    with_reducible refine c3.mono ?_
    rintro en w3 ⟨rfl, hb3⟩
    have HA3 := Lib.hid (HA.out.later hb3)
    have HR3 := Lib.hid (HR.out.later hb3)
    have HB3 := Lib.hid (HB2.out.trans (hb3.mono HB2.out.size))
    have c4 := list_c p m t.1 t.2 w3 HA3.out (by omega) HNM.out
    unfold dp at c4
    clear c3 hb3 HA HR HB2
    go_wp2_with fail
    with_reducible refine c4.mono ?_
    rintro en w4 ⟨A1, c1, rfl, hr1, hb4⟩
    have HR4 := Lib.hid (HR3.out.later hb4)
    have HB4 := Lib.hid (HB3.out.trans (hb4.mono HB3.out.size))
    have HL4 := Lib.hid hr1
    have c5 := rlist_c q _ t.1 t.2 A c w4 HR4.out (by omega)
    clear c4 hr1 hb4 HA3 HR3 HB3
    go_wp2_with fail
    with_reducible refine c5.mono ?_
    rintro en w5 ⟨A2, c2, rfl, hr2, hb5⟩
    have HB5 := Lib.hid (HB4.out.trans (hb5.mono HB4.out.size))
    have hr1 := own_below HL4.out hb5
    have cs := sameTop_c t.2 t.2 t.2.length A1 A2 c1 c2 _ _ w5 rfl rfl rfl hr1 hr2 (by omega)
    clear c5 hr1 hr2 hb5 HR4 HB4 HL4
    go_wp2_with fail
    with_reducible refine cs.mono ?_
    rintro en w6 ⟨rfl, k, rfl⟩
    have HB6 := Lib.hid (below_drewN HB5.out k)
    clear cs
    go_wp2_with fail
    with_reducible refine (cl _).mono ?_
    rintro en w7 ⟨rfl, hb⟩
    have HB7 := Lib.hid (HB6.out.trans (hb.mono HB6.out.size))
    clear hb
    go_wp2_with fail
    go_ret
    exact ⟨rfl, HB7.out⟩
  · have HZ := Lib.hid hz
    obtain ⟨ez, hez⟩ : ∃ ez, paT s = ez := ⟨_, rfl⟩
    have HEZ := Lib.hid hez
    clear hz hez
    go_enter Try.func4, Try.ntmps4
    go_wp2_with fail
    with_reducible refine cp.mono ?_
    rintro en w1 (⟨_, rfl, hb1⟩ | ⟨h0, _⟩)
    case inr => exact absurd h0 HZ.out
    have H1 := Lib.hid hb1
    clear cp hb1
    go_wp2_with fail
    with_reducible refine (cr _).mono ?_
    rintro en w2 (⟨_, rfl, hb2⟩ | ⟨h0, _⟩)
    case inr => exact absurd h0 HZ.out
    have H2 := Lib.hid (H1.out.trans (hb2.mono H1.out.size))
    clear cr hb2
    go_wp2_with fail
    with_reducible refine (cl _).mono ?_
    rintro en w5 ⟨rfl, hb⟩
    have HB := Lib.hid (H2.out.trans (hb.mono H2.out.size))
    clear hb
    go_wp2_with fail
    go_ret
    exact ⟨rfl, HB.out⟩
end Go.Proofs.Ytnpfakjgocnkbaa
