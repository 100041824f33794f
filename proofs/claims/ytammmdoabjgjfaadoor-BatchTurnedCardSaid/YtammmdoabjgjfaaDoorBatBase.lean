/- What every proof of batch's seat leans on: the table's cells out of the row's list, and a world that holds it. No condition. -/
import Derived.Test.YtammmdoabjgjfaaDoorCards
import Derived.Test.YtammmdoabjgjfaaDoorTie
import Derived.Test.YtammmdoabjgjfaaDoorKit
import Derived.Test.YtammmdoabjgjfaaDoorBatEnc
import Derived.ProofKit
import Derived.LaidMore
import Derived.Deep.DeepHandedRow
import Derived.Lib.LaidTab
namespace Go.Proofs.YtammmdoabjgjfaaDoor
open Go.ChangeShapes Go.WideShapes Go.ChangeAt Go.RowKit
theorem own : ownKnob Tryd.prog.godebug = none := by kernel_rfl
theorem laidOut : laidOutB Tryd.prog = true := by kernel_rfl
theorem gTab : Tryd.prog.globalNamed "flotsam/crcc.nibbles" = some 0 := by kernel_rfl
theorem gTabType : (Tryd.prog.globals[0]?).map (·.type) = some 97 := by kernel_rfl
theorem cellsArr : Tryd.prog.cellsOf 97 = 16 := by kernel_rfl
theorem cellsU32 : Tryd.prog.cellsOf 42 = 1 := by kernel_rfl
theorem tab_of {W : World} (h : laidMetH Tryd.prog [("flotsam/crcc.nibbles", Rows.laid_flotsam_crcc_nibbles)] W) : Tab W := by
  have ht : Lib.TabIs Tryd.prog W "flotsam/crcc.nibbles" .u32 [0, 274646895, 549293790, 820201905, 1098587580, 1361435347, 1640403810, 1905808397, 2197175160, 2460548119, 2722870694, 2987750089, 3280807620, 3553878443, 3811616794, 4084100981] :=
    Lib.tabIs_of_head (rest := []) gTab gTabType Tryd.underlying97 Tryd.underlying42 cellsU32 cellsArr h
  intro i hi
  rw [ht.cell gTab i hi]
  have h : ∀ j : Fin 16, ([0, 274646895, 549293790, 820201905, 1098587580, 1361435347, 1640403810, 1905808397, 2197175160, 2460548119, 2722870694, 2987750089, 3280807620, 3553878443, 3811616794, 4084100981] : List Int).getD j.val 0 = ((CR.nib j.val : Nat) : Int) := by decide
  exact congrArg (fun z => some (Value.int .u32 z)) (h ⟨i, hi⟩)
noncomputable def startW (os : Os) : World := World.doorLaid Tryd.prog 400 os
end Go.Proofs.YtammmdoabjgjfaaDoor
