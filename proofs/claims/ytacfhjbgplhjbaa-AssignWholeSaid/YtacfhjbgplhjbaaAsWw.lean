/- assign: AssignWhole, walked. No condition. -/
import Derived.Test.YtacfhjbgplhjbaaAsWh
namespace Go.Proofs.Ytacfhjbgplhjbaa
open Go.RowKit
set_option linter.unusedVariables false
set_option maxHeartbeats 16000000 in
set_option maxRecDepth 100000 in
theorem assignWhole_walk (S : List SX) (A : Option Addr) (c : Nat) (T : List TX) (A2 : Option Addr) (c2 : Nat) (W : World) (hS : SbIn W A S) (hl : S.length ≤ 140737488351232) (hz : ∀ x ∈ S, x.2.1.length ≤ 140737488351232) (hT : TpIn W A2 T) (hl2 : T.length ≤ 140737488351232) (hsz : ∀ t ∈ T, t.1.size ≤ 281474976710656) :
    Calls Try.prog 4 #[.slice A S.length c, .slice A2 T.length c2] W (Good W (.bool true)) := by
  have c1 := few_c S A c T A2 c2 W hS hl hl2 hz
  have HS := Lib.hid hS
  have HT := Lib.hid hT
  cases hf : fewB S T with
  | false =>
    rw [hf] at c1
    clear hS hT hz hsz hf
    go_enter Try.func4, Try.ntmps4
    go_wp2_with fail
    with_reducible refine c1.mono ?_
    rintro e w1 ⟨rfl, hb1⟩
    go_wp2_with ((with_reducible refine (live14_c _).mono ?_); rintro e w2 ⟨rfl, hb2⟩)
    go_ret
    exact ⟨rfl, hb1.trans (hb2.mono hb1.size)⟩
  | true =>
    rw [hf] at c1
    have c7 := fun w (hb : Below W.heap.size W w) => check_c S A c T A2 c2 w (HS.out.below hb) (HT.out.below hb) hl hl2 hz
    rcases chk_cases S T with hk | hk
    rotate_left
    · rw [hk] at c7
      clear hS hT hz hsz hf hk
      go_enter Try.func4, Try.ntmps4
      go_wp2_with fail
      with_reducible refine c1.mono ?_
      rintro e w1 ⟨rfl, hb1⟩
      go_wp2_with fail
      with_reducible refine (c7 _ hb1).mono ?_
      rintro e w2 ⟨rfl, hb2⟩
      go_wp2_with ((with_reducible refine (live14_c _).mono ?_); rintro e w3 ⟨rfl, hb3⟩)
      go_ret
      exact ⟨rfl, (hb1.trans (hb2.mono hb1.size)).trans (hb3.mono (Nat.le_trans hb1.size hb2.size))⟩
    have c2' := fun w (hb : Below W.heap.size W w) => range_c S A c T A2 c2 w (HS.out.below hb) (HT.out.below hb) hz hsz hk
    have c4 := fun w (hb : Below W.heap.size W w) => round_c S A c T A2 c2 w (HS.out.below hb) (HT.out.below hb) hz hsz hk
    have c5 := fun B d w (hb : Below W.heap.size W w) (hI : ShIn w B (shL (S.map (·.1)) (rangeD S T))) => whole_c S A c T A2 c2 _ B d w (HS.out.below hb) (HT.out.below hb) hI hz hk (range_dealt S T)
    have c6 := fun B d w (hb : Below W.heap.size W w) (hI : ShIn w B (shL (S.map (·.1)) (roundD S T).1)) => whole_c S A c T A2 c2 _ B d w (HS.out.below hb) (HT.out.below hb) hI hz hk (round_dealt S T)
    rw [hk] at c7
    clear hS hT hf hk hz hsz
    go_enter Try.func4, Try.ntmps4
    go_wp2_with fail
    with_reducible refine c1.mono ?_
    rintro e w1 ⟨rfl, hb1⟩
    go_wp2_with fail
    with_reducible refine (c7 _ hb1).mono ?_
    rintro e w2 ⟨rfl, hb2⟩
    have HB2 := Lib.hid (hb1.trans (hb2.mono hb1.size))
    clear hb1 hb2 c1 c7
    go_wp2_with fail
    with_reducible refine (c2' _ HB2.out).mono ?_
    rintro en w6 ⟨A6, d6, R6, rfl, hs6, hm6, hb6⟩
    have HB6 := Lib.hid (HB2.out.trans (hb6.mono HB2.out.size))
    have HI6 := Lib.hid (GotSh.inn hs6 hm6)
    clear hs6 hm6 hb6 c2' HB2
    go_wp2_with fail
    with_reducible refine (c4 _ HB6.out).mono ?_
    rintro en w8 ⟨A8, d8, R8, rfl, hs8, hm8, hb8⟩
    have HB8 := Lib.hid (HB6.out.trans (hb8.mono HB6.out.size))
    have HI8 := Lib.hid (GotSh.inn hs8 hm8)
    have HI68 := Lib.hid (HI6.out.below hb8)
    clear hs8 hm8 hb8 c4 HB6 HI6
    go_wp2_with fail
    with_reducible refine (c5 _ _ _ HB8.out HI68.out).mono ?_
    rintro en w9 ⟨rfl, hb9⟩
    have HB9 := Lib.hid (HB8.out.trans (hb9.mono HB8.out.size))
    have HI89 := Lib.hid (HI8.out.below hb9)
    clear hb9 c5 HB8 HI8 HI68
    go_wp2_with fail
    with_reducible refine (c6 _ _ _ HB9.out HI89.out).mono ?_
    rintro en wa ⟨rfl, hba⟩
    have HBa := Lib.hid (HB9.out.trans (hba.mono HB9.out.size))
    clear hba c6 HB9 HI89
    go_wp2_with fail
    with_reducible refine (live14_c _).mono ?_
    rintro en wd ⟨rfl, hbd⟩
    go_wp2_with fail
    go_ret
    exact ⟨rfl, HBa.out.trans (hbd.mono HBa.out.size)⟩
end Go.Proofs.Ytacfhjbgplhjbaa
