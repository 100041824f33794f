/- The walk of DiskApart. No condition. -/
import Derived.Test.YtpdimmkacjilgaaDkRen
namespace Go.Proofs.Ytpdimmkacjilgaa
open Go.RowKit Go.Maps Go.ChangeMaps Go.WideMaps Go.Shelf
set_option linter.unusedVariables false
def nA : ByteArray := ⟨#[97]⟩
def nB : ByteArray := ⟨#[98]⟩
def nC : ByteArray := ⟨#[99]⟩
/-- The states of the law's disk. -/
def ap1 (one : ByteArray) : Ab := ⟨2000, false, 0, [([97], one.data.toList, 0)]⟩
def ap2 (one two : ByteArray) : Ab := ⟨2000, false, 0, [([97], one.data.toList, 0), ([98], two.data.toList, 0)]⟩
def ap3 (one two : ByteArray) : Ab := ⟨2000, false, 0, [([97], one.data.toList, one.size), ([98], two.data.toList, 0)]⟩
def ap4 (one : ByteArray) (l : List UInt8) : Ab := ⟨2000, false, 0, [([97], one.data.toList, one.size), ([98], l, 0)]⟩
def ap5 (one : ByteArray) (l : List UInt8) (k : Nat) : Ab := ⟨2000, false, 0, [([97], one.data.toList, one.size), ([99], l, k)]⟩
theorem ap_tot (a b : AF) : totL [a, b] = a.2.1.length + b.2.1.length := by simp [totL]
section
variable {one two : ByteArray} (h1 : ¬ 300 < one.size) (h2 : ¬ 300 < two.size)
include h1 in
theorem ap_1 : appE ⟨2000, false, 0, []⟩ nA one = 0 ∧ appA ⟨2000, false, 0, []⟩ nA one = ap1 one :=
  app_ok (a := ⟨2000, false, 0, []⟩) (n := nA) (s := one) rfl rfl (by show (0 : Int) + _ ≤ 2000; omega)
include h1 h2 in
theorem ap_2 : appE (ap1 one) nB two = 0 ∧ appA (ap1 one) nB two = ap2 one two :=
  app_ok (a := ap1 one) (n := nB) (s := two) rfl rfl (by
    have : one.data.toList.length = one.size := rfl
    show ((one.data.toList.length + 0 : Nat) : Int) + _ ≤ 2000
    omega)
theorem ap_3 : seeE (ap2 one two) nA.data.toList = 0 ∧ syncA (ap2 one two) nA.data.toList = ap3 one two := ⟨rfl, rfl⟩
include h1 h2 in
theorem ap_4 : appE (ap3 one two) nB one = 0 ∧ appA (ap3 one two) nB one = ap4 one (two ++ one).data.toList := by
  obtain ⟨e1, e2⟩ := app_ok (a := ap3 one two) (n := nB) (s := one) rfl rfl (by
    have q1 : one.data.toList.length = one.size := rfl
    have q2 : two.data.toList.length = two.size := rfl
    show ((totL [([97], one.data.toList, one.size), ([98], two.data.toList, 0)] : Nat) : Int) + _ ≤ 2000
    rw [ap_tot]
    show ((one.data.toList.length + two.data.toList.length : Nat) : Int) + _ ≤ 2000
    omega)
  refine ⟨e1, e2.trans ?_⟩
  have e3 : (two ++ one).data.toList = two.data.toList ++ one.data.toList := by simp
  unfold ap4
  rw [e3]
  rfl
theorem ap_5 (bb : ByteArray) (cut : Int) (hb : (cut < 0 ∧ bb = two ++ one) ∨ (((two ++ one).size : Int) < cut ∧ bb = two ++ one) ∨ (0 ≤ cut ∧ cut ≤ ((two ++ one).size : Int) ∧ bb = (two ++ one).extract 0 cut.toNat)) :
    cutA (ap4 one (two ++ one).data.toList) nB.data.toList cut = ap4 one bb.data.toList := by
  have e0 : cutA (ap4 one (two ++ one).data.toList) nB.data.toList cut = if cut < 0 ∨ ((two ++ one).data.toList.length : Int) < cut then ap4 one (two ++ one).data.toList else ap4 one ((two ++ one).data.toList.take cut.toNat) := by
    show (if cut < 0 ∨ ((two ++ one).data.toList.length : Int) < cut then ap4 one (two ++ one).data.toList else { chgA (ap4 one (two ++ one).data.toList) with L := setL (ap4 one (two ++ one).data.toList).L nB.data.toList (nB.data.toList, (two ++ one).data.toList.take cut.toNat, min 0 cut.toNat) }) = _
    rw [Nat.zero_min]
    rfl
  have hl : (two ++ one).data.toList.length = (two ++ one).size := rfl
  rw [e0, hl]
  rcases hb with ⟨q1, rfl⟩ | ⟨q1, rfl⟩ | ⟨q1, q2, rfl⟩
  · rw [if_pos (.inl q1)]
  · rw [if_pos (.inr q1)]
  · rw [if_neg (by omega)]
    congr 1
    simp
    rw [List.take_append]
    rfl
theorem ap_6 (l : List UInt8) : renA (ap4 one l) nB nC = ap5 one l 0 := by
  show ({ chgA (ap4 one l) with L := if nC = nB then (ap4 one l).L else insL (nC.data.toList, l, 0) (delL (delL (ap4 one l).L nC.data.toList) nB.data.toList) } : Ab) = _
  rw [if_neg (by decide)]
  rfl
theorem ap_7 (l : List UInt8) (keep : List Int) : ∃ k, k ≤ l.length ∧ crashA (ap5 one l 0) keep = ap5 one (l.take k) k := by
  have h : one.data.toList.length = one.size := rfl
  have e : ∀ r : List AF, tearL keep 0 (([97], one.data.toList, one.size) :: r) = (([97], one.data.toList, one.size) :: (tearL keep 0 r).1, (tearL keep 0 r).2) := fun r => by
    rw [tearL, if_pos (show one.data.toList.length = one.size from rfl)]
  by_cases hl : l.length = 0
  · refine ⟨0, by omega, ?_⟩
    have hl0 : l = [] := List.length_eq_zero_iff.1 hl
    subst hl0
    unfold crashA ap5
    rw [e]
    rfl
  · refine ⟨0 + keptOf keep 0 (l.length - 0), by have := keptOf_le keep 0 (l.length - 0); omega, ?_⟩
    unfold crashA ap5
    rw [e]
    simp only [tearL, if_neg hl]
end
namespace diskApart
set_option maxHeartbeats 8000000 in
set_option maxRecDepth 100000 in
theorem diskApart_walk (o : ApR) (W : World) (hi : ApIn W o) : Calls Try.prog 7 #[apV o] W (Good W (.bool true)) := by
  obtain ⟨one, two, cut, ad, c, keep⟩ := o
  have hbx := Box.new W 54 #[.string one, .string two, .int .i64 cut, .slice ad keep.length c]
  have y0 := (hbx.cell 0).trans rfl
  have y1 := (hbx.cell 1).trans rfl
  have y2 := (hbx.cell 2).trans rfl
  have y3 := (hbx.cell 3).trans rfl
  simp only [List.getElem?_toArray, List.getElem?_cons_zero, List.getElem?_cons_succ] at y0 y1 y2 y3
  obtain ⟨i1, i2, i3, i4, i5⟩ := hi
  simp only at i1 i2 i3 i4 i5
  have cl := live_c
  have hb0 : Below W.heap.size W (W.alloc (.cells #[.string one, .string two, .int .i64 cut, .slice ad keep.length c] 54)).drew := ((Below.refl _ W).alloc (Nat.le_refl _) _).drew
  have HB0 := Lib.hid hb0
  clear hb0 hbx
  unfold apV
  simp only
  by_cases h1 : 300 < one.size
  · have h1' : (300 : Int) < (one.size : Int) := by omega
    go_enter Try.func7, Try.ntmps7
    go_wp2_with fail
    go_region_held3 (fun w => w.cell? ⟨W.heap.size, 0, none⟩ = some (.string one) ∧ w.cell? ⟨W.heap.size, 1, none⟩ = some (.string two) ∧ w.cell? ⟨W.heap.size, 2, none⟩ = some (.int .i64 cut) ∧ w.cell? ⟨W.heap.size, 3, none⟩ = some (.slice ad keep.length c)) (exact ⟨y0, y1, y2, y3⟩) (fail)
    go_wp2_with ((with_reducible refine (cl _).mono ?_); rintro en w1 ⟨rfl, hb⟩)
    go_ret
    exact ⟨rfl, HB0.out.trans (hb.mono HB0.out.size)⟩
  by_cases h2 : 300 < two.size
  · have h1' : ¬ (300 : Int) < (one.size : Int) := by omega
    have h2' : (300 : Int) < (two.size : Int) := by omega
    go_enter Try.func7, Try.ntmps7
    go_wp2_with fail
    go_region_held3 (fun w => w.cell? ⟨W.heap.size, 0, none⟩ = some (.string one) ∧ w.cell? ⟨W.heap.size, 1, none⟩ = some (.string two) ∧ w.cell? ⟨W.heap.size, 2, none⟩ = some (.int .i64 cut) ∧ w.cell? ⟨W.heap.size, 3, none⟩ = some (.slice ad keep.length c)) (exact ⟨y0, y1, y2, y3⟩) (fail)
    go_wp2_with ((with_reducible refine (cl _).mono ?_); rintro en w1 ⟨rfl, hb⟩)
    go_ret
    exact ⟨rfl, HB0.out.trans (hb.mono HB0.out.size)⟩
  have h1' : ¬ (300 : Int) < (one.size : Int) := by omega
  have h2' : ¬ (300 : Int) < (two.size : Int) := by omega
  obtain ⟨bb, hbb⟩ : ∃ bb : ByteArray, (cut < 0 ∧ bb = two ++ one) ∨ (((two ++ one).size : Int) < cut ∧ bb = two ++ one) ∨ (0 ≤ cut ∧ cut ≤ ((two ++ one).size : Int) ∧ bb = (two ++ one).extract 0 cut.toNat) := by
    by_cases q1 : cut < 0
    · exact ⟨_, .inl ⟨q1, rfl⟩⟩
    · by_cases q2 : ((two ++ one).size : Int) < cut
      · exact ⟨_, .inr (.inl ⟨q2, rfl⟩)⟩
      · exact ⟨_, .inr (.inr ⟨by omega, by omega, rfl⟩)⟩
  have HBB := Lib.hid hbb
  have E5 := Lib.hid (ap_5 bb cut hbb)
  clear hbb
  have E1 := Lib.hid (ap_1 h1)
  have E2 := Lib.hid (ap_2 h1 h2)
  have E4 := Lib.hid (ap_4 h1 h2)
  obtain ⟨k, hk, he7⟩ := ap_7 (one := one) bb.data.toList keep
  have E7 := Lib.hid (And.intro hk he7)
  clear hk he7
  have c0 := at_new (W := W) (w := (W.alloc (.cells #[.string one, .string two, .int .i64 cut, .slice ad keep.length c] 54)).drew) 2000 (by omega) HB0.out
  generalize hW0 : (W.alloc (.cells #[.string one, .string two, .int .i64 cut, .slice ad keep.length c] 54)).drew.heap.size = N0 at c0
  have hN0 : W.heap.size + 1 = N0 := by rw [← hW0]; simp
  clear hW0
  unfold dp at *
  go_enter Try.func7, Try.ntmps7
  go_wp2_with fail
  go_region_held3 (fun w => w.cell? ⟨W.heap.size, 0, none⟩ = some (.string one) ∧ w.cell? ⟨W.heap.size, 1, none⟩ = some (.string two) ∧ w.cell? ⟨W.heap.size, 2, none⟩ = some (.int .i64 cut) ∧ w.cell? ⟨W.heap.size, 3, none⟩ = some (.slice ad keep.length c)) (exact ⟨y0, y1, y2, y3⟩) (fail)
  clear y0 y1 y2 y3
  go_wp2_with fail
  (with_reducible refine c0.mono ?_)
  rintro en w1 ⟨rfl, hA⟩
  have HA := Lib.hid hA
  clear hA c0
  go_wp2_with fail
  have c1 := at_app nA one HA.out (by decide) (by omega) (by decide)
  rw [E1.out.1, E1.out.2] at c1
  unfold dp nA at c1
  (with_reducible refine c1.mono ?_)
  rintro en w2 ⟨rfl, hA⟩
  have HA := Lib.hid hA
  clear hA c1
  go_wp2_with fail
  have c1 := at_app nB two HA.out (by decide) (by omega) (by show (1 : Nat) ≤ 1000000; omega)
  rw [E2.out.1, E2.out.2] at c1
  unfold dp nB at c1
  (with_reducible refine c1.mono ?_)
  rintro en w3 ⟨rfl, hA⟩
  have HA := Lib.hid hA
  clear hA c1
  go_wp2_with fail
  have c1 := at_sync nA HA.out (by decide)
  rw [ap_3.1, ap_3.2] at c1
  unfold dp nA at c1
  (with_reducible refine c1.mono ?_)
  rintro en w4 ⟨rfl, hA⟩
  have HA := Lib.hid hA
  clear hA c1
  go_wp2_with fail
  have c1 := at_app nB one HA.out (by decide) (by omega) (by show (2 : Nat) ≤ 1000000; omega)
  rw [E4.out.1, E4.out.2] at c1
  unfold dp nB at c1
  (with_reducible refine c1.mono ?_)
  rintro en w5 ⟨rfl, hA⟩
  have HA := Lib.hid hA
  clear hA c1
  go_wp2_with fail
  have c1 := at_cut nB cut HA.out (by decide)
  rw [E5.out] at c1
  unfold dp nB at c1
  (with_reducible refine c1.mono ?_)
  rintro en w6 ⟨rfl, hA⟩
  have HA := Lib.hid hA
  clear hA c1
  go_wp2_with fail
  have c1 := at_ren nB nC HA.out (by decide) (by decide) (by show (2 : Nat) ≤ 1000000; omega)
  rw [ap_6] at c1
  unfold dp nB nC at c1
  (with_reducible refine c1.mono ?_)
  rintro en w7 ⟨rfl, hA⟩
  have HA := Lib.hid hA
  clear hA c1
  go_wp2_with fail
  have c1 := read_do _ (ap5 one bb.data.toList 0) _ w7 nA (by decide) HA.out.1
  rw [show readV (ap5 one bb.data.toList 0) nA.data.toList = one.data.toList from rfl, show seeE (ap5 one bb.data.toList 0) nA.data.toList = 0 from rfl, show (⟨one.data.toList.toArray⟩ : ByteArray) = one from rfl] at c1
  unfold dp nA at c1
  (with_reducible refine c1.mono ?_)
  rintro en w7' ⟨rfl, hw⟩
  have hw' := hw.symm
  subst hw'
  clear hw c1
  go_wp2_with fail
  have c1 := at_crash ad c keep HA.out HA.out.1 (fun _ x => x) (by show (2 : Nat) ≤ 1000000; omega) i5 (i4.off (Off.of_below (fun _ => False) HA.out.2) (fun _ _ x => x.elim))
  rw [E7.out.2] at c1
  unfold dp at c1
  (with_reducible refine c1.mono ?_)
  rintro en w8 ⟨rfl, hA⟩
  have HA := Lib.hid hA
  clear hA c1
  go_wp2_with fail
  have c1 := read_do _ (ap5 one (bb.data.toList.take k) k) _ w8 nA (by decide) HA.out.1
  rw [show readV (ap5 one (bb.data.toList.take k) k) nA.data.toList = one.data.toList from rfl, show seeE (ap5 one (bb.data.toList.take k) k) nA.data.toList = 0 from rfl, show (⟨one.data.toList.toArray⟩ : ByteArray) = one from rfl] at c1
  unfold dp nA at c1
  (with_reducible refine c1.mono ?_)
  rintro en w7' ⟨rfl, hw⟩
  have hw' := hw.symm
  subst hw'
  clear hw c1
  go_wp2_with fail
  have c1 := read_do _ (ap5 one (bb.data.toList.take k) k) _ w8 nC (by decide) HA.out.1
  rw [show readV (ap5 one (bb.data.toList.take k) k) nC.data.toList = bb.data.toList.take k from rfl, show seeE (ap5 one (bb.data.toList.take k) k) nC.data.toList = 0 from rfl] at c1
  have ht1 : (⟨(bb.data.toList.take k).toArray⟩ : ByteArray).size = k := by
    have := E7.out.1
    have h3 : bb.data.toList.length = bb.size := rfl
    show (bb.data.toList.take k).toArray.size = k
    rw [List.size_toArray, List.length_take]
    omega
  have ht2 : (⟨(bb.data.toList.take k).toArray⟩ : ByteArray) = bb.extract 0 k := by
    apply ByteArray.ext
    apply Array.toList_inj.1
    simp
  rw [ht2] at c1 ht1
  unfold dp nC at c1
  (with_reducible refine c1.mono ?_)
  rintro en w7' ⟨rfl, hw⟩
  have hw' := hw.symm
  subst hw'
  clear hw c1
  go_wp2_with fail
  have c1 := read_do _ (ap5 one (bb.data.toList.take k) k) _ w8 nB (by decide) HA.out.1
  rw [show readV (ap5 one (bb.data.toList.take k) k) nB.data.toList = [] from rfl, show seeE (ap5 one (bb.data.toList.take k) k) nB.data.toList = 6 from rfl] at c1
  unfold dp nB at c1
  (with_reducible refine c1.mono ?_)
  rintro en w7' ⟨rfl, hw⟩
  have hw' := hw.symm
  subst hw'
  clear hw c1
  have hkl : k ≤ bb.size := E7.out.1
  generalize hu : bb.extract 0 k = u at *
  have g1 : (u.size : Int) ≤ (bb.size : Int) := by omega
  have g2 : bb.extract 0 u.size = u := by rw [ht1]; exact hu
  have g3 : u.size ≤ bb.size := by omega
  have HE := Lib.hid HA.out.2
  clear hu ht1 ht2 hkl HA E7 E5 E4 E2 E1 HB0 i3 i4 i5
  rcases HBB.out with ⟨q1, q2⟩ | ⟨q1, q2⟩ | ⟨q1, q2, q3⟩
  · subst q2
    have g4 : ¬ ((two.size : Int) + (one.size : Int) < (u.size : Int)) := by rw [size_app] at g3; omega
    clear HBB
    go_wp2_with ((with_reducible refine (cl _).mono ?_); rintro en w9 ⟨rfl, hb⟩)
    all_goals
      go_ret
      exact ⟨rfl, HE.out.trans (hb.mono HE.out.size)⟩
  · subst q2
    have g4 : ¬ ((two.size : Int) + (one.size : Int) < (u.size : Int)) := by rw [size_app] at g3; omega
    rw [size_app] at q1
    have q3 : ¬ cut < 0 := by omega
    have q4 : ¬ (cut ≤ (two.size : Int) + (one.size : Int)) := by omega
    clear HBB
    go_wp2_with ((with_reducible refine (cl _).mono ?_); rintro en w9 ⟨rfl, hb⟩)
    all_goals
      go_ret
      exact ⟨rfl, HE.out.trans (hb.mono HE.out.size)⟩
  · obtain ⟨kk, rfl⟩ : ∃ kk : Nat, cut = kk := ⟨cut.toNat, by omega⟩
    rw [size_app] at q2
    have q4 : (kk : Int) ≤ (two.size : Int) + (one.size : Int) := by omega
    have q5 : (two ++ one).extract 0 kk = bb := q3.symm
    have q6 : kk ≤ (two ++ one).size := by rw [size_app]; omega
    clear HBB q3 q2
    go_wp2_with ((with_reducible refine (cl _).mono ?_); rintro en w9 ⟨rfl, hb⟩)
    all_goals
      go_ret
      exact ⟨rfl, HE.out.trans (hb.mono HE.out.size)⟩
end diskApart
end Go.Proofs.Ytpdimmkacjilgaa
