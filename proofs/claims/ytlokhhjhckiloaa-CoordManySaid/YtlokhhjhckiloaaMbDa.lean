/- member: deal, by a contract. No condition but that numbers are small. -/
import Derived.Test.YtlokhhjhckiloaaMbSb
import Derived.BigRegion
namespace Go.Proofs.Ytlokhhjhckiloaa
open Go.RowKit
set_option linter.unusedVariables false
theorem infoSub : (Try.prog.info? 95).map (fun i => (i.zero, i.size, i.bytes)) = some (some (.agg #[.int .i64 0, .slice none 0 0]), 2, 32) := by kernel_rfl
/-- A member that was dealt its parts, when the first k have theirs. -/
def dpX (D : Nat → List TX) (Rs : List (Int × Value)) (k j : Nat) (x : MV) : MV := if j < k then ⟨{ x.d with P := D j }, x.tv, ((Rs[j]?).map (·.2)).getD x.pv⟩ else x
def dpR (D : Nat → List TX) (Rs : List (Int × Value)) (R : List MV) (k : Nat) : List MV := R.mapIdx fun j x => dpX D Rs k j x
section
variable {D : Nat → List TX} {Rs : List (Int × Value)} {R : List MV} {k : Nat}
theorem dpR_len : (dpR D Rs R k).length = R.length := by simp [dpR]
theorem dpR_zero : dpR D Rs R 0 = R := by
  unfold dpR
  apply List.ext_getElem?
  intro j
  rw [List.getElem?_mapIdx]
  cases R[j]? <;> rfl
theorem dpR_at {x : MV} (h : R[k]? = some x) : (dpR D Rs R k)[k]? = some x := by
  unfold dpR
  rw [List.getElem?_mapIdx, h]
  simp [dpX]
theorem dpR_step {x : MV} (h : R[k]? = some x) : (dpR D Rs R k).set k (dpX D Rs (k + 1) k x) = dpR D Rs R (k + 1) := by
  have hl := (List.getElem?_eq_some_iff.1 h).1
  apply List.ext_getElem?
  intro j
  by_cases e : j = k
  · subst e
    rw [List.getElem?_set_self (by rw [dpR_len]; exact hl)]
    unfold dpR
    rw [List.getElem?_mapIdx, h]
    rfl
  · rw [List.getElem?_set_ne (fun e' => e e'.symm)]
    unfold dpR
    rw [List.getElem?_mapIdx, List.getElem?_mapIdx]
    cases R[j]? with
    | none => rfl
    | some y =>
      simp only [Option.map_some, dpX]
      by_cases hj : j < k
      · rw [if_pos hj, if_pos (by omega)]
      · rw [if_neg hj, if_neg (by omega)]
theorem dpR_abs {L : List MD} (h : R.map MV.d = L) : (dpR D Rs R R.length).map MV.d = L.mapIdx fun j x => { x with P := D j } := by
  subst h
  apply List.ext_getElem?
  intro j
  unfold dpR
  rw [List.getElem?_map, List.getElem?_mapIdx, List.getElem?_mapIdx, List.getElem?_map]
  cases hj : R[j]? with
  | none => rfl
  | some y =>
    have hl := (List.getElem?_eq_some_iff.1 hj).1
    simp [dpX, hl]
end
/-- A call on a group that leaves its members' row where it is. -/
def WrK (B p : Nat) (v : Value) (n : Nat) (W : World) (G' : GD) (res : Value) (e : Ending) (w' : World) : Prop := e = .returned res ∧ ∃ R', R'.length = n ∧ GrIs w' B p v R' G' ∧ Off (GrS p v) W w'
end Go.Proofs.Ytlokhhjhckiloaa
