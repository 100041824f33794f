/- The laws of token but TokenSame and TokenNone, walked. Condition: the texts' lengths; the tables of utf8. -/
import Derived.Test.YtfndedkcmnknkaaDoorTkLive
import Derived.Test.YtfndedkcmnknkaaDoorRows
namespace Go.Proofs.YtfndedkcmnknkaaDoor
open Go.RowKit
set_option linter.unusedVariables false
set_option maxHeartbeats 4000000 in
set_option maxRecDepth 100000 in
theorem folds_w (L : List UInt8) (W : World) (hl : L.length ≤ 140737488351232) (hT : Tabs W) : Calls Tryd.prog 3 #[.string (bs L)] W (Yes W) := by
  have c1 := fun w => fold_c L w hl
  have c2 := fun w => rfold_c L w hl
  generalize bs L = s at *
  generalize bs (TK.foldL L) = f at *
  go_enter Tryd.func3, Tryd.ntmps3
  go_wp2_with fail
  (with_reducible refine (c1 _).mono ?_)
  rintro e w1 ⟨rfl, hb1⟩
  go_wp2_with fail
  (with_reducible refine (c2 _).mono ?_)
  rintro e w2 ⟨rfl, hb2⟩
  have HB2 := Lib.hid (hb1.trans (hb2.mono hb1.size))
  clear hb1 hb2 c1 c2
  go_wp2_with fail
  (with_reducible refine (live_c _ (hT.below HB2.out)).mono ?_)
  rintro e w3 ⟨rfl, hb3⟩
  have HB3 := Lib.hid (HB2.out.trans (hb3.mono HB2.out.size))
  clear hb3 HB2
  go_wp2
  go_ret
  exact ⟨rfl, HB3.out⟩
theorem tokenFolds_walk (a0 : ByteArray) (W : World) (s0 : a0.size ≤ 140737488351232) (hT : Tabs W) : Calls Tryd.prog 3 #[.string a0] W (Yes W) := by
  have h := folds_w a0.data.toList W (by rw [size_list]; exact s0) hT
  rw [bs_self] at h
  exact h
set_option maxHeartbeats 4000000 in
set_option maxRecDepth 100000 in
theorem words_w (L : List UInt8) (W : World) (hl : L.length ≤ 1048576) (hT : Tabs W) : Calls Tryd.prog 4 #[.string (bs L)] W (Yes W) := by
  have hn := TK.words_count L
  have c1 := words_c L (by omega) (by omega) W hT
  have c2 := fun w h => rwords_c L (by omega) w h
  go_enter Tryd.func4, Tryd.ntmps4
  go_wp2_with fail
  (with_reducible refine c1.mono ?_)
  rintro e w1 ⟨v, rfl, hr1, hb1⟩
  have HB1 := Lib.hid hb1
  have HR1 := Lib.hid hr1
  clear hb1 c1 hr1
  go_wp2_with fail
  (with_reducible refine (c2 _ (hT.below HB1.out)).mono ?_)
  rintro e w2 ⟨v2, rfl, hr2, hb2⟩
  have c3 := tsame_c (TK.words L) _ _ v v2 w2 (own_below HR1.out hb2) hr2 (by omega)
  have HB2 := Lib.hid (HB1.out.trans (hb2.mono HB1.out.size))
  clear hb2 hr2 c2
  go_wp2_with fail
  (with_reducible refine c3.mono ?_)
  rintro e w3 ⟨rfl, hb3⟩
  have HB3 := Lib.hid (HB2.out.trans (hb3.mono HB2.out.size))
  clear hb3 HB2 c3
  go_wp2_with fail
  (with_reducible refine (live_c _ (hT.below HB3.out)).mono ?_)
  rintro e w4 ⟨rfl, hb4⟩
  have HB4 := Lib.hid (HB3.out.trans (hb4.mono HB3.out.size))
  clear hb4 HB3
  go_wp2
  go_ret
  exact ⟨rfl, HB4.out⟩
set_option maxHeartbeats 4000000 in
set_option maxRecDepth 100000 in
theorem has_w (L wd : List UInt8) (W : World) (hl : L.length ≤ 1048576) (hw : wd.length ≤ 1048576) (hT : Tabs W) : Calls Tryd.prog 5 #[.string (bs L), .string (bs wd)] W (Yes W) := by
  have c1 := has_c L wd (by omega) (by omega) W hT
  have c2 := fun w h => rhas_c L wd (by omega) (by omega) w h
  unfold hasB at c1
  generalize decide (TK.foldL wd ∈ TK.words L) = b at *
  generalize bs L = s at *
  generalize bs wd = t at *
  go_enter Tryd.func5, Tryd.ntmps5
  go_wp2_with fail
  (with_reducible refine c1.mono ?_)
  rintro e w1 ⟨rfl, hb1⟩
  have HB1 := Lib.hid hb1
  clear hb1 c1
  go_wp2_with fail
  (with_reducible refine (c2 _ (hT.below HB1.out)).mono ?_)
  rintro e w2 ⟨rfl, hb2⟩
  have HB2 := Lib.hid (HB1.out.trans (hb2.mono HB1.out.size))
  clear hb2 c2
  go_wp2_with fail
  (with_reducible refine (live_c _ (hT.below HB2.out)).mono ?_)
  rintro e w3 ⟨rfl, hb3⟩
  have HB3 := Lib.hid (HB2.out.trans (hb3.mono HB2.out.size))
  clear hb3 HB2
  go_wp2
  go_ret
  exact ⟨rfl, HB3.out⟩
theorem upto1 {H : Type} {l : List UInt8} (h : Rows.uptoSmall H [DataW.lit (.string l)] = true) : l.length ≤ 1048576 := by
  have h2 := of_decide_eq_true h
  simp only [Rows.uptoBulkAll, Rows.uptoBulk] at h2
  omega
theorem upto2 {H : Type} {l m : List UInt8} (h : Rows.uptoSmall H [DataW.lit (.string l), DataW.lit (.string m)] = true) : l.length ≤ 1048576 ∧ m.length ≤ 1048576 ∧ l.length + m.length ≤ 1048576 := by
  have h2 := of_decide_eq_true h
  simp only [Rows.uptoBulkAll, Rows.uptoBulk] at h2
  omega
theorem tokenWords_walk (a0 : ByteArray) (W : World) (s0 : a0.size ≤ 140737488351232) (hT : Tabs W) {H : Type} (hk : Rows.uptoSmall H [DataW.lit (.string a0.data.toList)] = true) : Calls Tryd.prog 4 #[.string a0] W (Yes W) := by
  have h := words_w a0.data.toList W (upto1 hk) hT
  rw [bs_self] at h
  exact h
theorem tokenHas_walk (a0 a1 : ByteArray) (W : World) (s0 : a0.size ≤ 140737488351232) (s1 : a1.size ≤ 140737488351232) (hT : Tabs W) {H : Type} (hk : Rows.uptoSmall H [DataW.lit (.string a0.data.toList), DataW.lit (.string a1.data.toList)] = true) : Calls Tryd.prog 5 #[.string a0, .string a1] W (Yes W) := by
  have hh := upto2 hk
  have h := has_w a0.data.toList a1.data.toList W hh.1 hh.2.1 hT
  rw [bs_self, bs_self] at h
  exact h
end Go.Proofs.YtfndedkcmnknkaaDoor
