/- expr: whether one part may be: the document's part and the program's fits, by contracts. -/
import Derived.Test.YtmnmgbbdjpfonaaDoorExDep
namespace Go.Proofs.YtmnmgbbdjpfonaaDoor
open Go.RowKit
set_option linter.unusedVariables false
set_option linter.unusedSimpArgs false
def smB (s : ByteArray) : Bool := decide (1 ≤ s.size) && decide (s.size ≤ 1000)
/-- May one part be, whatever its kids are? -/
def partB (t : Tr) : Bool :=
  if t.op = 0 then decide (t.kids.length = 0) && decide (t.name.size = 0) && decide (t.value.size = 0)
  else if t.op = 1 ∨ t.op = 2 then decide (2 ≤ t.kids.length) && decide (t.name.size = 0) && decide (t.value.size = 0)
  else if t.op = 3 then decide (t.kids.length = 1) && decide (t.name.size = 0) && decide (t.value.size = 0)
  else if t.op = 4 then decide (t.kids.length = 0) && smB t.name && decide (t.value.size = 0)
  else if t.op = 5 then decide (t.kids.length = 0) && smB t.name && decide (t.value.size ≤ 1000)
  else if t.op = 6 ∨ t.op = 7 then decide (t.kids.length = 0) && decide (t.name.size = 0) && smB t.value
  else false
theorem nil_iff (s : ByteArray) : s.toList = [] ↔ s.size = 0 := by
  have h : s.toList.length = s.size := by rw [ByteArray.toList_eq, Array.length_toList]; rfl
  constructor
  · intro e; rw [e] at h; exact h.symm
  · intro e; exact List.eq_nil_of_length_eq_zero (h.trans e)
theorem emp (s : ByteArray) : s.toList.isEmpty = decide (s.size = 0) := by
  rw [Bool.eq_iff_iff, List.isEmpty_iff, nil_iff, decide_eq_true_eq]
set_option maxHeartbeats 1000000 in
theorem something_c (s : ByteArray) (W : World) (hs : s.size ≤ 1152921504606846976) : Calls Tryd.prog 50 #[.string s] W (fun e w' => e = .returned (.bool (smB s)) ∧ w' = W) := by
  generalize hR : smB s = R
  unfold smB at hR
  have HR := Lib.hid hR.symm
  clear hR
  go_enter Tryd.func50, Tryd.ntmps50
  go_wp2_with fail
  all_goals (go_ret; refine ⟨?_, rfl⟩; refine congrArg (fun b => Ending.returned (.bool b)) (?_ : _ = R); rw [HR.out]; try (clear HR))
  all_goals (rw [Bool.eq_iff_iff]; simp only [Bool.and_eq_true, decide_eq_true_eq, Bool.false_eq_true, false_iff, true_iff, iff_true, iff_false, beq_iff_eq] <;> omega)
set_option maxHeartbeats 4000000 in
set_option maxRecDepth 100000 in
theorem rpart_c (t : Tr) (A : Option Addr) (c : Nat) (W : World) (hN : NodeOk t) : Calls Tryd.prog 46 #[exV t A c] W (Good W (.bool (partB t))) := by
  have hb := Boxed.start W t A c
  obtain ⟨c0, c1, c2, c3⟩ := hb.cells
  clear hb
  have hkl := hN.kids
  have hk1 := hN.name
  have hk2 := hN.value
  have h1 := hN.lo
  have h2 := hN.hi
  clear hN
  generalize hR : partB t = R
  unfold partB at hR
  unfold exV exC at *
  generalize t.kids.length = K at *
  generalize t.name = nm at *
  generalize t.value = vl at *
  generalize t.op = o at *
  by_cases g0 : o = 0
  · subst g0
    have HR : Hid (R = (decide (K = 0) && decide (nm.size = 0) && decide (vl.size = 0))) := Lib.hid hR.symm
    clear hR
    go_enter Tryd.func46, Tryd.ntmps46
    go_wp2_with fail
    all_goals (go_ret; refine ⟨?_, (Below.refl _ _).alloc (Nat.le_refl _) _⟩; refine congrArg (fun b => Ending.returned (.bool b)) (?_ : _ = R); rw [HR.out]; try (clear HR))
    all_goals (try simp only [nil_iff, emp, smB, Bool.and_eq_true, decide_eq_true_eq] at *)
    all_goals (rw [Bool.eq_iff_iff]; simp only [Bool.and_eq_true, decide_eq_true_eq, Bool.false_eq_true, false_iff, true_iff, iff_true, iff_false, beq_iff_eq] <;> omega)
  by_cases g1 : o = 1
  · subst g1
    have HR : Hid (R = (decide (2 ≤ K) && decide (nm.size = 0) && decide (vl.size = 0))) := Lib.hid hR.symm
    clear hR
    go_enter Tryd.func46, Tryd.ntmps46
    go_wp2_with fail
    all_goals (go_ret; refine ⟨?_, (Below.refl _ _).alloc (Nat.le_refl _) _⟩; refine congrArg (fun b => Ending.returned (.bool b)) (?_ : _ = R); rw [HR.out]; try (clear HR))
    all_goals (try simp only [nil_iff, emp, smB, Bool.and_eq_true, decide_eq_true_eq] at *)
    all_goals (rw [Bool.eq_iff_iff]; simp only [Bool.and_eq_true, decide_eq_true_eq, Bool.false_eq_true, false_iff, true_iff, iff_true, iff_false, beq_iff_eq] <;> omega)
  by_cases g2 : o = 2
  · subst g2
    have HR : Hid (R = (decide (2 ≤ K) && decide (nm.size = 0) && decide (vl.size = 0))) := Lib.hid hR.symm
    clear hR
    go_enter Tryd.func46, Tryd.ntmps46
    go_wp2_with fail
    all_goals (go_ret; refine ⟨?_, (Below.refl _ _).alloc (Nat.le_refl _) _⟩; refine congrArg (fun b => Ending.returned (.bool b)) (?_ : _ = R); rw [HR.out]; try (clear HR))
    all_goals (try simp only [nil_iff, emp, smB, Bool.and_eq_true, decide_eq_true_eq] at *)
    all_goals (rw [Bool.eq_iff_iff]; simp only [Bool.and_eq_true, decide_eq_true_eq, Bool.false_eq_true, false_iff, true_iff, iff_true, iff_false, beq_iff_eq] <;> omega)
  by_cases g3 : o = 3
  · subst g3
    have HR : Hid (R = (decide (K = 1) && decide (nm.size = 0) && decide (vl.size = 0))) := Lib.hid hR.symm
    clear hR
    go_enter Tryd.func46, Tryd.ntmps46
    go_wp2_with fail
    all_goals (go_ret; refine ⟨?_, (Below.refl _ _).alloc (Nat.le_refl _) _⟩; refine congrArg (fun b => Ending.returned (.bool b)) (?_ : _ = R); rw [HR.out]; try (clear HR))
    all_goals (try simp only [nil_iff, emp, smB, Bool.and_eq_true, decide_eq_true_eq] at *)
    all_goals (rw [Bool.eq_iff_iff]; simp only [Bool.and_eq_true, decide_eq_true_eq, Bool.false_eq_true, false_iff, true_iff, iff_true, iff_false, beq_iff_eq] <;> omega)
  by_cases g4 : o = 4
  · subst g4
    have HR : Hid (R = (decide (K = 0) && smB nm && decide (vl.size = 0))) := Lib.hid hR.symm
    clear hR
    go_enter Tryd.func46, Tryd.ntmps46
    go_wp2_with fail
    all_goals (go_ret; refine ⟨?_, (Below.refl _ _).alloc (Nat.le_refl _) _⟩; refine congrArg (fun b => Ending.returned (.bool b)) (?_ : _ = R); rw [HR.out]; try (clear HR))
    all_goals (try simp only [nil_iff, emp, smB, Bool.and_eq_true, decide_eq_true_eq] at *)
    all_goals (rw [Bool.eq_iff_iff]; simp only [Bool.and_eq_true, decide_eq_true_eq, Bool.false_eq_true, false_iff, true_iff, iff_true, iff_false, beq_iff_eq] <;> omega)
  by_cases g5 : o = 5
  · subst g5
    have HR : Hid (R = (decide (K = 0) && smB nm && decide (vl.size ≤ 1000))) := Lib.hid hR.symm
    clear hR
    go_enter Tryd.func46, Tryd.ntmps46
    go_wp2_with fail
    all_goals (go_ret; refine ⟨?_, (Below.refl _ _).alloc (Nat.le_refl _) _⟩; refine congrArg (fun b => Ending.returned (.bool b)) (?_ : _ = R); rw [HR.out]; try (clear HR))
    all_goals (try simp only [nil_iff, emp, smB, Bool.and_eq_true, decide_eq_true_eq] at *)
    all_goals (rw [Bool.eq_iff_iff]; simp only [Bool.and_eq_true, decide_eq_true_eq, Bool.false_eq_true, false_iff, true_iff, iff_true, iff_false, beq_iff_eq] <;> omega)
  by_cases g6 : o = 6
  · subst g6
    have HR : Hid (R = (decide (K = 0) && decide (nm.size = 0) && smB vl)) := Lib.hid hR.symm
    clear hR
    go_enter Tryd.func46, Tryd.ntmps46
    go_wp2_with fail
    all_goals (go_ret; refine ⟨?_, (Below.refl _ _).alloc (Nat.le_refl _) _⟩; refine congrArg (fun b => Ending.returned (.bool b)) (?_ : _ = R); rw [HR.out]; try (clear HR))
    all_goals (try simp only [nil_iff, emp, smB, Bool.and_eq_true, decide_eq_true_eq] at *)
    all_goals (rw [Bool.eq_iff_iff]; simp only [Bool.and_eq_true, decide_eq_true_eq, Bool.false_eq_true, false_iff, true_iff, iff_true, iff_false, beq_iff_eq] <;> omega)
  by_cases g7 : o = 7
  · subst g7
    have HR : Hid (R = (decide (K = 0) && decide (nm.size = 0) && smB vl)) := Lib.hid hR.symm
    clear hR
    go_enter Tryd.func46, Tryd.ntmps46
    go_wp2_with fail
    all_goals (go_ret; refine ⟨?_, (Below.refl _ _).alloc (Nat.le_refl _) _⟩; refine congrArg (fun b => Ending.returned (.bool b)) (?_ : _ = R); rw [HR.out]; try (clear HR))
    all_goals (try simp only [nil_iff, emp, smB, Bool.and_eq_true, decide_eq_true_eq] at *)
    all_goals (rw [Bool.eq_iff_iff]; simp only [Bool.and_eq_true, decide_eq_true_eq, Bool.false_eq_true, false_iff, true_iff, iff_true, iff_false, beq_iff_eq] <;> omega)
  have HR : Hid (R = false) := Lib.hid (by rw [← hR, if_neg g0, if_neg (by rintro (h | h) <;> contradiction), if_neg g3, if_neg g4, if_neg g5, if_neg (by rintro (h | h) <;> contradiction)])
  clear hR
  go_enter Tryd.func46, Tryd.ntmps46
  go_wp2_with fail
  all_goals (go_ret; refine ⟨?_, (Below.refl _ _).alloc (Nat.le_refl _) _⟩; refine congrArg (fun b => Ending.returned (.bool b)) (?_ : _ = R); rw [HR.out]; try (clear HR))
  all_goals (try simp only [nil_iff, emp, smB, Bool.and_eq_true, decide_eq_true_eq] at *)
  all_goals (rw [Bool.eq_iff_iff]; simp only [Bool.and_eq_true, decide_eq_true_eq, Bool.false_eq_true, false_iff, true_iff, iff_true, iff_false, beq_iff_eq] <;> omega)
end Go.Proofs.YtmnmgbbdjpfonaaDoor
