/- assign: who wants a topic; a topic's partitions; who is next: by contracts. No condition. -/
import Derived.Test.YtlokhhjhckiloaaAsRow
import Derived.Test.YtlokhhjhckiloaaAsClone
namespace Go.Proofs.Ytlokhhjhckiloaa
open Go.RowKit
set_option linter.unusedVariables false
theorem beq_str (a b : ByteArray) : (a.toList == b.toList) = decide (a = b) := by
  rw [Bool.eq_iff_iff, beq_iff_eq, decide_eq_true_eq, ByteArray.toList_eq, ByteArray.toList_eq]
  constructor
  · intro h
    have := Array.toList_inj.1 h
    exact ByteArray.ext this
  · intro h
    rw [h]
/-- The first place of a text, or -1. -/
def Idx (T : List ByteArray) (s : ByteArray) (W : World) (e : Ending) (w' : World) : Prop := ∃ n : Int, e = .returned (.int .i64 n) ∧ decide (0 ≤ n) = hasB T s ∧ Below W.heap.size W w'
/-- The first one behind a place, or the first of all. -/
def behG (L : List Nat) (last : Int) : Nat := (L.find? fun (t : Nat) => decide (last < (t : Int))).getD (L.headD 0)
end Go.Proofs.Ytlokhhjhckiloaa
