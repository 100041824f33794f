/- member: what the document's examples are as data. No condition. -/
import Derived.Test.YthbcklamhoekmaaMbOw
namespace Go.Proofs.Ythbcklamhoekmaa
open Go.RowKit
set_option linter.unusedVariables false
def tB : ByteArray := ⟨#[116]⟩
theorem tB_want : wantB [tB] = true := rfl
def lvG1 : GD := ⟨2, 1, 1, 21, [⟨0, [tB], 11, true, []⟩], 10, 20⟩
def lvG2 : GD := ⟨1, 1, 2, 22, [⟨0, [tB], 11, false, []⟩, ⟨1, [tB], 12, true, []⟩], 10, 20⟩
def lvG3 : GD := ⟨1, 1, 2, 22, [⟨0, [tB], 13, false, []⟩, ⟨1, [tB], 12, true, []⟩], 10, 20⟩
def lvG4 : GD := ⟨2, 2, 2, 23, [⟨0, [tB], 13, true, []⟩, ⟨1, [tB], 12, true, []⟩], 10, 20⟩
def lvG5 : GD := ⟨3, 2, 2, 0, [⟨0, [tB], 14, true, [(tB, 0), (tB, 1)]⟩, ⟨1, [tB], 12, true, [(tB, 2)]⟩], 10, 20⟩
theorem lv1 : joinD (-1) [tB] 1 (newG 10 20) = lvG1 ∧ joinE (-1) [tB] 1 (newG 10 20) = 0 ∧ joinM (-1) (newG 10 20) = 0 := ⟨rfl, rfl, rfl⟩
theorem lv2 : joinD (-1) [tB] 2 lvG1 = lvG2 ∧ joinE (-1) [tB] 2 lvG1 = 0 ∧ joinM (-1) lvG1 = 1 := ⟨rfl, rfl, rfl⟩
theorem lv3 : beatD 0 1 3 lvG2 = lvG3 ∧ beatE 0 1 3 lvG2 = 13 := ⟨rfl, rfl⟩
theorem lv4 : joinD 0 [tB] 3 lvG3 = lvG4 ∧ joinE 0 [tB] 3 lvG3 = 0 ∧ joinM 0 lvG3 = 0 := ⟨rfl, rfl, rfl⟩
theorem lv_chk : chkE [((0 : Int), [tB], none, 0), (1, [tB], none, 0)] [(tB, 3)] = 0 := rfl
theorem lv_tak : takersG [((0 : Int), [tB], none, 0), (1, [tB], none, 0)] tB 2 = [0, 1] := by
  have h : hasB [tB] tB = true := by unfold hasB; simp
  rw [show 2 = 1 + 1 from rfl, takersG_yes (k := 1) (x := (1, [tB], none, 0)) rfl h, takersG_yes (k := 0) (x := (0, [tB], none, 0)) rfl h]
  rfl
theorem lv_range : rangeD [((0 : Int), [tB], none, 0), (1, [tB], none, 0)] [(tB, 3)] 0 = [(tB, 0), (tB, 1)] ∧ rangeD [((0 : Int), [tB], none, 0), (1, [tB], none, 0)] [(tB, 3)] 1 = [(tB, 2)] := by
  have e : rangeD [((0 : Int), [tB], none, 0), (1, [tB], none, 0)] [(tB, 3)] = dealK [0, 1] tB 3 (fun _ => []) 2 := by
    show stepR _ (fun _ => []) (tB, 3) = _
    unfold stepR
    rw [show ([((0 : Int), [tB], none, 0), (1, [tB], none, 0)] : List SX).length = 2 from rfl, lv_tak]
    rfl
  rw [e]
  exact ⟨rfl, rfl⟩
theorem lv5 : syncD 0 2 [(tB, 3)] false 4 lvG4 = lvG5 ∧ syncE 0 2 [(tB, 3)] 4 lvG4 = 0 ∧ (syncP 0 2 [(tB, 3)] false 4 lvG4).length = 2 := by
  have h0 : hearD 0 4 lvG4 = ⟨2, 2, 2, 23, [⟨0, [tB], 14, true, []⟩, ⟨1, [tB], 12, true, []⟩], 10, 20⟩ := rfl
  have hd : syncD 0 2 [(tB, 3)] false 4 lvG4 = lvG5 := by
    show sync2D 0 [(tB, 3)] false (hearD 0 4 lvG4) = _
    rw [h0]
    show dealD [(tB, 3)] false ⟨2, 2, 2, 23, [⟨0, [tB], 14, true, []⟩, ⟨1, [tB], 12, true, []⟩], 10, 20⟩ = _
    unfold dealD
    rw [if_pos (show dealE [⟨0, [tB], 14, true, []⟩, ⟨1, [tB], 12, true, []⟩] [(tB, 3)] = 0 from lv_chk)]
    unfold lvG5 dealF
    simp only [List.mapIdx_cons, List.mapIdx_nil, Bool.false_eq_true, if_false]
    have h1 := lv_range
    unfold subsD
    simp only [List.map_cons, List.map_nil, Nat.zero_add]
    rw [h1.1, h1.2]
  have he : syncE 0 2 [(tB, 3)] 4 lvG4 = 0 := rfl
  refine ⟨hd, he, ?_⟩
  unfold syncP
  rw [if_pos he, hd]
  rfl
theorem lv6 : knowE 1 1 lvG5 = 10 := rfl
end Go.Proofs.Ythbcklamhoekmaa
