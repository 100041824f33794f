/- Small words for the walks of token. No condition. -/
import Derived.Test.YtfndedkcmnknkaaDoorProg
import Derived.Test.YtfndedkcmnknkaaDoorTkMath
import Derived.Test.YtfndedkcmnknkaaDoorBytes
import Derived.Test.YtfndedkcmnknkaaDoorMem
import Derived.WalkKit
import Derived.ProofKit
import Derived.LoopTactic
import Derived.Lib.Hide
import Derived.ScopeJumps
import Derived.WalkMore
import Derived.WalkLawsBesides
import Derived.IntWalk
import Derived.Deep.RegionWith
import Derived.Deep.QuietTactic
import Derived.BigQuiet
import Derived.Laws.Concat
import Derived.Laws.DeepStrings4
namespace Go.Proofs.YtfndedkcmnknkaaDoor
open Go.RowKit
set_option linter.unusedVariables false
def Good (W : World) (v : Value) (e : Ending) (w' : World) : Prop := e = .returned v ∧ Below W.heap.size W w'
theorem bjoin {B B' : Nat} {a b c : World} (h : Below B a b) (k : Below B' b c) (hB : B' = b.heap.size) (hA : B = a.heap.size) : Below B a c := h.trans (k.mono (by rw [hB, hA]; have := h.size; omega))
theorem str_ne {a b : ByteArray} (h : a ≠ b) : (a.toList == b.toList) = false := by
  rw [ByteArray.toList_eq, ByteArray.toList_eq, beq_eq_false_iff_ne]
  intro e
  exact h (ByteArray.ext (Array.ext' e))
theorem str_eq_iff (l m : List UInt8) : ((⟨l.toArray⟩ : ByteArray).toList == (⟨m.toArray⟩ : ByteArray).toList) = decide (l = m) := by
  rw [ByteArray.toList_mk, ByteArray.toList_mk, Bool.eq_iff_iff]
  simp
/-- A text of the bytes l. -/
def bs (l : List UInt8) : ByteArray := ⟨l.toArray⟩
theorem bs_size (l : List UInt8) : (bs l).size = l.length := by unfold bs; show l.toArray.size = _; simp
theorem bs_list (l : List UInt8) : (bs l).data.toList = l := by unfold bs; simp
theorem bs_self (s : ByteArray) : bs s.data.toList = s := by unfold bs; simp
theorem size_list (s : ByteArray) : s.data.toList.length = s.size := by show s.data.toList.length = s.data.size; simp
theorem bs_extract (l : List UInt8) (a b : Nat) : (bs l).extract a b = bs (TK.piece l a b) := by
  apply ByteArray.ext
  apply Array.ext'
  unfold bs TK.piece
  simp
end Go.Proofs.YtfndedkcmnknkaaDoor
