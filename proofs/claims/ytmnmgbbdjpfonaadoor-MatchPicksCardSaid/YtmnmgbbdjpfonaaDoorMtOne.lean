/- match: the law MatchOne, walked. Condition: the tables of utf8. -/
import Derived.Test.YtmnmgbbdjpfonaaDoorMtLv
import Derived.Test.YtmnmgbbdjpfonaaDoorRecOpen
namespace Go.Proofs.YtmnmgbbdjpfonaaDoor
open Go.RowKit
set_option linter.unusedVariables false
def smB8 (t : Tr) (r : Rec) : Bool := decide (sizeG t ≤ 40) && decide (depthG t ≤ 20) && decide ((r.heads.length : Int) ≤ 20)
theorem sm8_dep {t : Tr} {r : Rec} (h : smB8 t r = true) : depD 19 t := by
  unfold smB8 at h
  rw [Bool.and_eq_true, Bool.and_eq_true, decide_eq_true_eq, decide_eq_true_eq] at h
  exact depD_small (by omega) (by decide)
set_option maxHeartbeats 2000000 in
set_option maxRecDepth 100000 in
theorem small8_c (d : Nat) (t : Tr) (A : Option Addr) (c : Nat) (r : Rec) (Ar : Option Addr) (cr : Nat) (W : World) (hT : TrAt (fun _ => True) W d A t) (hR : RIn W r Ar cr) (hTb : Tabs W) :
    Calls Tryd.prog 9 #[exV t A c, recV r Ar cr] W (Good W (.bool (smB8 t r))) := by
  have hs := fun w (h : Both W W.heap.size (W.heap.size + 1) t A c r Ar cr d w) => rSize_c (fun _ => True) d t A c w h.tree
  have hd := fun w (h : Both W W.heap.size (W.heap.size + 1) t A c r Ar cr d w) => rDepth_c (fun _ => True) d t A c w h.tree
  have HB := Lib.hid (Both.start (c := c) hT hR hTb)
  obtain ⟨⟨x0, x1, x2, x3⟩, y0, y1, y2, y3, y4, y5, y6⟩ := HB.out.cells
  have hc : ∀ w, Both W W.heap.size (W.heap.size + 1) t A c r Ar cr d w → _ := fun w h => h.cells
  clear hT hR hTb
  generalize hV : smB8 t r = V
  unfold smB8 at hV
  unfold exV exC recV recC at *
  generalize sizeG t = sg at *
  generalize depthG t = dg at *
  by_cases h40 : sg ≤ 40
  · by_cases h20 : dg ≤ 20
    · have HV : Hid (V = decide ((r.heads.length : Int) ≤ 20)) := Lib.hid (by rw [← hV, decide_eq_true h40, decide_eq_true h20]; rfl)
      clear hV
      go_enter Tryd.func9, Tryd.ntmps9
      go_wp2_with fail
      with_reducible refine (hs _ HB.out).mono ?_
      rintro en w1 ⟨rfl, hb1⟩
      have HB1 := Lib.hid (HB.out.later hb1)
      clear hb1 hs x0 x1 x2 x3 y0 y1 y2 y3 y4 y5 y6 HB
      obtain ⟨⟨x0, x1, x2, x3⟩, y0, y1, y2, y3, y4, y5, y6⟩ := hc _ HB1.out
      go_wp2_with fail
      with_reducible refine (hd _ HB1.out).mono ?_
      rintro en w2 ⟨rfl, hb2⟩
      have HB2 := Lib.hid (HB1.out.later hb2)
      clear hb2 hd x0 x1 x2 x3 y0 y1 y2 y3 y4 y5 y6 HB1
      obtain ⟨⟨x0, x1, x2, x3⟩, y0, y1, y2, y3, y4, y5, y6⟩ := hc _ HB2.out
      go_wp2_with fail
      go_ret
      exact ⟨by rw [HV.out]; rfl, HB2.out.bel⟩
    · have HV : Hid (V = false) := Lib.hid (by rw [← hV, decide_eq_false h20]; simp)
      clear hV
      go_enter Tryd.func9, Tryd.ntmps9
      go_wp2_with fail
      with_reducible refine (hs _ HB.out).mono ?_
      rintro en w1 ⟨rfl, hb1⟩
      have HB1 := Lib.hid (HB.out.later hb1)
      clear hb1 hs x0 x1 x2 x3 y0 y1 y2 y3 y4 y5 y6 HB
      obtain ⟨⟨x0, x1, x2, x3⟩, y0, y1, y2, y3, y4, y5, y6⟩ := hc _ HB1.out
      go_wp2_with fail
      with_reducible refine (hd _ HB1.out).mono ?_
      rintro en w2 ⟨rfl, hb2⟩
      have hb := (HB1.out.later hb2).bel
      clear hb2 hd HB1
      go_wp2_with fail
      go_ret
      exact ⟨by rw [HV.out]; rfl, hb⟩
  · have HV : Hid (V = false) := Lib.hid (by rw [← hV, decide_eq_false h40]; simp)
    clear hV hd
    go_enter Tryd.func9, Tryd.ntmps9
    go_wp2_with fail
    with_reducible refine (hs _ HB.out).mono ?_
    rintro en w1 ⟨rfl, hb1⟩
    have hb := (HB.out.later hb1).bel
    clear hb1 hs HB
    go_wp2_with fail
    go_ret
    exact ⟨by rw [HV.out]; rfl, hb⟩
set_option maxHeartbeats 2000000 in
set_option maxRecDepth 100000 in
theorem matchOne_walk (t : Tr) (A : Option Addr) (c n : Nat) (r : Rec) (Ar : Option Addr) (cr : Nat) (W : World) (hT : TrAt (fun _ => True) W n A t) (hR : RIn W r Ar cr) (hS : RSmall r) (hTb : Tabs W) :
    Calls Tryd.prog 3 #[exV t A c, recV r Ar cr] W (Yes W) := by
  have cs := fun w (h : Both W W.heap.size (W.heap.size + 1) t A c r Ar cr n w) => small8_c n t A c r Ar cr w h.tree h.rin h.tabs
  have cl := fun w (h : Tabs w) => live8_c w h
  have HB := Lib.hid (Both.start (c := c) hT hR hTb)
  obtain ⟨⟨x0, x1, x2, x3⟩, y0, y1, y2, y3, y4, y5, y6⟩ := HB.out.cells
  have hc : ∀ w, Both W W.heap.size (W.heap.size + 1) t A c r Ar cr n w → _ := fun w h => h.cells
  cases hs : smB8 t r with
  | false =>
    rw [hs] at cs
    clear hT hR hTb hs
    unfold exV exC recV recC Yes at *
    go_enter Tryd.func3, Tryd.ntmps3
    go_wp2_with fail
    with_reducible refine (cs _ HB.out).mono ?_
    rintro en w1 ⟨rfl, hb1⟩
    have HB1 := Lib.hid (HB.out.later hb1)
    clear hb1 cs x0 x1 x2 x3 y0 y1 y2 y3 y4 y5 y6 HB
    go_wp2_with fail
    with_reducible refine (cl _ HB1.out.tabs).mono ?_
    rintro en w2 ⟨rfl, hb2⟩
    have hb := (HB1.out.later hb2).bel
    clear hb2 cl HB1
    go_wp2_with fail
    go_ret
    exact ⟨rfl, hb⟩
  | true =>
    rw [hs] at cs
    have hd := sm8_dep hs
    have cp := fun w (h : Both W W.heap.size (W.heap.size + 1) t A c r Ar cr n w) => pmatch_c t A c r Ar cr w (trAt_to h.tree hd) h.rin h.tabs
    have cr' := fun w (h : Both W W.heap.size (W.heap.size + 1) t A c r Ar cr n w) => rmatch_c n t A c r Ar cr w h.tree h.rin h.tabs
    clear hT hR hTb hs hd
    generalize matchG t r = m at *
    obtain ⟨m1, m2⟩ := m
    unfold exV exC recV recC Yes Told at *
    go_enter Tryd.func3, Tryd.ntmps3
    go_wp2_with fail
    with_reducible refine (cs _ HB.out).mono ?_
    rintro en w1 ⟨rfl, hb1⟩
    have HB1 := Lib.hid (HB.out.later hb1)
    clear hb1 cs x0 x1 x2 x3 y0 y1 y2 y3 y4 y5 y6 HB
    obtain ⟨⟨x0, x1, x2, x3⟩, y0, y1, y2, y3, y4, y5, y6⟩ := hc _ HB1.out
    go_wp2_with fail
    with_reducible refine (cp _ HB1.out).mono ?_
    rintro en w2 ⟨rfl, hb2⟩
    have HB2 := Lib.hid (HB1.out.later hb2)
    clear hb2 cp x0 x1 x2 x3 y0 y1 y2 y3 y4 y5 y6 HB1
    obtain ⟨⟨x0, x1, x2, x3⟩, y0, y1, y2, y3, y4, y5, y6⟩ := hc _ HB2.out
    go_wp2_with fail
    with_reducible refine (cr' _ HB2.out).mono ?_
    rintro en w3 ⟨rfl, hb3⟩
    have HB3 := Lib.hid (HB2.out.later hb3)
    clear hb3 cr' x0 x1 x2 x3 y0 y1 y2 y3 y4 y5 y6 HB2
    cases m1
    all_goals go_wp2_with fail
    all_goals with_reducible refine (cl _ HB3.out.tabs).mono ?_
    all_goals rintro en w4 ⟨rfl, hb4⟩
    all_goals have hb := (HB3.out.later hb4).bel
    all_goals clear hb4 cl HB3
    all_goals go_wp2_with fail
    all_goals go_ret
    all_goals exact ⟨rfl, hb⟩
end Go.Proofs.YtmnmgbbdjpfonaaDoor
