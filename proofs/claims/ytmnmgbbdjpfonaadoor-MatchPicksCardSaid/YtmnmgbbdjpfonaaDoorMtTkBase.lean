/- Small words for the walks of token. No condition. -/
import Derived.Test.YtmnmgbbdjpfonaaDoorProg
import Derived.Test.YtmnmgbbdjpfonaaDoorTkMath
import Derived.Test.YtmnmgbbdjpfonaaDoorBytes
import Derived.Test.YtmnmgbbdjpfonaaDoorMem
import Derived.Test.YtmnmgbbdjpfonaaDoorNum
import Derived.WalkKit
import Derived.ProofKit
import Derived.LoopTactic
import Derived.Lib.Hide
import Derived.ScopeJumps
import Derived.WalkMore
import Derived.WalkLawsBesides
import Derived.IntWalk
import Derived.Deep.RegionWith
import Derived.Deep.QuietTactic
import Derived.BigQuiet
import Derived.Laws.Concat
import Derived.Laws.DeepStrings4
namespace Go.Proofs.YtmnmgbbdjpfonaaDoor
open Go.RowKit
set_option linter.unusedVariables false
/-- A text of the bytes l. -/
def bs (l : List UInt8) : ByteArray := ⟨l.toArray⟩
theorem bs_size (l : List UInt8) : (bs l).size = l.length := by unfold bs; show l.toArray.size = _; simp
theorem bs_list (l : List UInt8) : (bs l).data.toList = l := by unfold bs; simp
theorem bs_self (s : ByteArray) : bs s.data.toList = s := by unfold bs; simp
theorem size_list (s : ByteArray) : s.data.toList.length = s.size := by show s.data.toList.length = s.data.size; simp
theorem bs_extract (l : List UInt8) (a b : Nat) : (bs l).extract a b = bs (TK.piece l a b) := by
  apply ByteArray.ext
  apply Array.ext'
  unfold bs TK.piece
  simp
end Go.Proofs.YtmnmgbbdjpfonaaDoor
