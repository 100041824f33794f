/- match: what a filter lets through, the program's, by contracts. Condition: the tables of utf8. -/
import Derived.Test.YtmnmgbbdjpfonaaDoorMtPre
namespace Go.Proofs.YtmnmgbbdjpfonaaDoor
open Go.RowKit
set_option linter.unusedVariables false
theorem Both.start {W : World} {t : Tr} {A : Option Addr} {c : Nat} {r : Rec} {Ar : Option Addr} {cr d : Nat} (hT : TrAt (fun _ => True) W d A t) (hR : RIn W r Ar cr) (hTb : Tabs W) :
    Both W W.heap.size (W.heap.size + 1) t A c r Ar cr d ((W.alloc (.cells (exC t A c) 24)).alloc (.cells (recC r Ar cr) 27)) := by
  have h1 : Below W.heap.size W (W.alloc (.cells (exC t A c) 24)) := (Below.refl _ _).alloc (Nat.le_refl _) _
  have hs : (W.alloc (.cells (exC t A c) 24)).heap.size = W.heap.size + 1 := by simp
  have h2 : Below (W.heap.size + 1) (W.alloc (.cells (exC t A c) 24)) ((W.alloc (.cells (exC t A c) 24)).alloc (.cells (recC r Ar cr) 27)) := (Below.refl _ _).alloc (by rw [hs]; exact Nat.le_refl _) _
  have h3 := h1.trans (h2.mono (Nat.le_succ _))
  have bx : Box (W.alloc (.cells (exC t A c) 24)) W.heap.size 24 (exC t A c) := Box.new _ _ _
  have br : Box ((W.alloc (.cells (exC t A c) 24)).alloc (.cells (recC r Ar cr) 27)) (W.heap.size + 1) 27 (recC r Ar cr) := by
    have := Box.new (W.alloc (.cells (exC t A c) 24)) 27 (recC r Ar cr)
    rwa [hs] at this
  refine ⟨h3, bx.later (h2.mono ?_), br, hT.below h3, hR.below h3, hTb.below h3⟩
  rw [hs]; exact Nat.le_refl _
theorem Both.self {W w : World} {q1 q2 : Nat} {t : Tr} {A : Option Addr} {c : Nat} {r : Rec} {Ar : Option Addr} {cr d : Nat} (h : Both W q1 q2 t A c r Ar cr d w) : Both w q1 q2 t A c r Ar cr d w :=
  ⟨Below.refl _ _, h.bx, h.br, h.tree, h.rin, h.tabs⟩
theorem part_value {t : Tr} (h : partB t = true) : t.value.size ≤ 1000 := by
  unfold partB smB at h
  repeat' split at h
  all_goals simp only [Bool.and_eq_true, decide_eq_true_eq, Bool.false_eq_true] at h
  all_goals omega
set_option maxHeartbeats 2000000 in
set_option maxRecDepth 100000 in
theorem thru_in (f : Tr → Bool) (t : Tr) (A : Option Addr) (c : Nat) (r : Rec) (Ar : Option Addr) (cr d : Nat) (W : World) (hT : TrAt (fun _ => True) W d A t) (hR : RIn W r Ar cr) (hS : RecSm r) (hTb : Tabs W) (hP : partB t = true) (ih : Down 22 f r Ar cr t.kids) :
    Calls Tryd.prog 22 #[exV t A c, recV r Ar cr] W (Good W (.bool (thruB f r t))) := by
  have HB := Lib.hid (Both.start (c := c) hT hR hTb)
  have ck := fun a w (h : Both w W.heap.size (W.heap.size + 1) t A c r Ar cr d w) => thru1_c f a W.heap.size (W.heap.size + 1) t A c r Ar cr d w h ih
  have ch := fun w (h : RIn w r Ar cr) => phead_c r Ar cr t.name w h hS.heads
  have cp := fun w => hpre_c r.key t.value w hS.key hT.node.value
  have cw := fun w (h : Tabs w) => has_c r.value.data.toList t.value.data.toList (by have := hS.value; rw [← bs_size, bs_self]; omega) (by have := part_value hP; rw [← bs_size, bs_self]; omega) w h
  obtain ⟨⟨x0, x1, x2, x3⟩, y0, y1, y2, y3, y4, y5, y6⟩ := HB.out.cells
  rw [bs_self, bs_self] at cw
  have HS := Lib.hid (Both.self HB.out)
  have HL := Lib.hid (fun w1 hb => (HB.out.later (w' := w1) hb).cells.1.2.2.1)
  have ck0 := fun w => ck false w
  have ck1 := fun w => ck true w
  clear ck
  have HBl := Lib.hid HB.out.bel
  have HRn := Lib.hid HB.out.rin
  have HTn := Lib.hid HB.out.tabs
  have h1 := hT.node.lo
  have h2 := hT.node.hi
  have hz1 := hS.key
  have hz2 := hS.value
  have hz3 := hT.node.value
  have hz4 := hT.node.name
  clear ih hT hR hTb hS HB hP
  generalize hV : thruB f r t = V
  unfold thruB at hV
  generalize anyK f false t.kids = af at *
  generalize anyK f true t.kids = at' at *
  generalize headerG r.heads t.name = hd at *
  obtain ⟨hd1, hd2⟩ := hd
  generalize preB r.key t.value = pv at *
  generalize hasB r.value.data.toList t.value.data.toList = wv at *
  unfold exV exC recV recC at *
  generalize t.op = o at *
  by_cases g1 : o = 1
  · subst g1
    have HV : Hid (V = (!af)) := Lib.hid hV.symm
    clear hV
    go_enter Tryd.func22, Tryd.ntmps22
    go_wp2_with fail
    with_reducible refine (ck0 _ HS.out).mono ?_
    rintro en w1 ⟨rfl, hb1⟩
    go_wp2_with fail
    go_ret
    exact ⟨by rw [HV.out]; rfl, HBl.out.trans (hb1.mono HBl.out.size)⟩
  by_cases g2 : o = 2
  · subst g2
    have HV : Hid (V = (at')) := Lib.hid hV.symm
    clear hV
    go_enter Tryd.func22, Tryd.ntmps22
    go_wp2_with fail
    with_reducible refine (ck1 _ HS.out).mono ?_
    rintro en w1 ⟨rfl, hb1⟩
    go_wp2_with fail
    go_ret
    exact ⟨by rw [HV.out]; rfl, HBl.out.trans (hb1.mono HBl.out.size)⟩
  by_cases g3 : o = 3
  · subst g3
    have HV : Hid (V = (af)) := Lib.hid hV.symm
    clear hV
    go_enter Tryd.func22, Tryd.ntmps22
    go_wp2_with fail
    with_reducible refine (ck0 _ HS.out).mono ?_
    rintro en w1 ⟨rfl, hb1⟩
    go_wp2_with fail
    go_ret
    exact ⟨by rw [HV.out]; rfl, HBl.out.trans (hb1.mono HBl.out.size)⟩
  by_cases g4 : o = 4
  · subst g4
    have HV : Hid (V = (hd2)) := Lib.hid hV.symm
    clear hV
    go_enter Tryd.func22, Tryd.ntmps22
    go_wp2_with fail
    with_reducible refine (ch _ HRn.out).mono ?_
    rintro en w1 ⟨rfl, hb1⟩
    unfold Sb
    go_wp2_with fail
    go_ret
    exact ⟨by rw [HV.out]; rfl, HBl.out.trans (hb1.mono HBl.out.size)⟩
  by_cases g5 : o = 5
  · subst g5
    have HV : Hid (V = (hd2 && decide (hd1 = t.value))) := Lib.hid hV.symm
    clear hV
    go_enter Tryd.func22, Tryd.ntmps22
    go_wp2_with fail
    with_reducible refine (ch _ HRn.out).mono ?_
    rintro en w1 ⟨rfl, hb1⟩
    have x2b := HL.out _ hb1
    unfold Sb
    cases hd2
    all_goals go_wp2_with fail
    all_goals go_ret
    all_goals exact ⟨by rw [HV.out]; simp [str_same], HBl.out.trans (hb1.mono HBl.out.size)⟩
  by_cases g6 : o = 6
  · subst g6
    have HV : Hid (V = (!r.bare && pv)) := Lib.hid hV.symm
    clear hV
    generalize r.bare = bb at *
    cases bb with
    | true =>
      go_enter Tryd.func22, Tryd.ntmps22
      go_wp2_with fail
      go_ret
      exact ⟨by rw [HV.out]; rfl, HBl.out⟩
    | false =>
      go_enter Tryd.func22, Tryd.ntmps22
      go_wp2_with fail
      with_reducible refine (cp _).mono ?_
      rintro en w1 ⟨rfl, hb1⟩
      go_wp2_with fail
      go_ret
      exact ⟨by rw [HV.out]; rfl, HBl.out.trans (hb1.mono HBl.out.size)⟩
  by_cases g7 : o = 7
  · subst g7
    have HV : Hid (V = (!r.gone && wv)) := Lib.hid hV.symm
    clear hV
    generalize r.gone = bb at *
    cases bb with
    | true =>
      go_enter Tryd.func22, Tryd.ntmps22
      go_wp2_with fail
      go_ret
      exact ⟨by rw [HV.out]; rfl, HBl.out⟩
    | false =>
      go_enter Tryd.func22, Tryd.ntmps22
      go_wp2_with fail
      with_reducible refine (cw _ HTn.out).mono ?_
      rintro en w1 ⟨rfl, hb1⟩
      go_wp2_with fail
      go_ret
      exact ⟨by rw [HV.out]; rfl, HBl.out.trans (hb1.mono HBl.out.size)⟩
  have HV : Hid (V = true) := Lib.hid (by rw [← hV, if_neg g1, if_neg g2, if_neg g3, if_neg g4, if_neg g5, if_neg g6, if_neg g7])
  clear hV
  go_enter Tryd.func22, Tryd.ntmps22
  go_wp2_with fail
  go_ret
  exact ⟨by rw [HV.out]; rfl, HBl.out⟩
end Go.Proofs.YtmnmgbbdjpfonaaDoor
