/-
  NARROWER THAN 'FOR EVERY INPUT', by the rows' own cells (each row's printed sentence says how): CleanOne: laid · CleanKeeps: laid · CleanBare: laid.
  DERIVED. THE GIVEN ROWS OF THIS SEAT. 3 by the template 'for every input the law returns true; each argument reads behind the call as it read before'; 0 by the template 'total and deterministic' (their statements: YtdclkhbolmbnmaaDoorTotals.lean).
  GIVEN WITH THE SEED: the statements are not yours to turn. If you find one false, say at which input.
  Laid BY PROGRAM, IN A SANDBOX (cutbox-rows.mjs): the forced cells as the released guide's own fill.sh prints them over the translation 052c5f8f486915a7… (all of the seat's roots in one cut). By AI agents, Wed Nov 11 2026. No macro, syntax, notation, axiom, sorry.
-/
import Derived.Test.YtdclkhbolmbnmaaDoorChecked
import GoSem.Claim
import GoSem.ClaimJoined
import GoSem.ClaimMapViews
import Derived.JoinedTies
import Derived.KernelRfl
namespace Go.Proofs.YtdclkhbolmbnmaaDoor
/- THE CELL 'sum', in the pinned program and in every row, IS THE sha256 OF THE DUMP (.gsa) THAT YtdclkhbolmbnmaaDoorProg.lean LOADS. Nothing in Lean hashes anything: it is a label: what it is worth is what the hold of that sum in a sandbox is worth. -/
noncomputable def Tryd.pinned : Pinned := { name := "ytdclkhbolmbnmaadoor", sum := "052c5f8f486915a75e2fe7b88b9eb3bd438e7884a2be239fc9ab9c4916861945", checked := Tryd.checked }
namespace Rows
def none {H : Type} : Left H := { results := [], args := [] }

/- WHAT THE LISTED PACKAGE-LEVEL VARIABLES READ AS WHEN THE CALL BEGINS. Each datum BY PROGRAM (the guide's laid-datum.mjs) off the statement by which the dump's own 'gosem.cut.vars' lays the variable. In a bare row this is a premise. The card (YtdclkhbolmbnmaaDoorCards.lean) ties it to the program's text. -/
def laid_flotsam_crcc_nibbles {H : Type} : DataW H := .agg [.lit (.int .u32 0), .lit (.int .u32 274646895), .lit (.int .u32 549293790), .lit (.int .u32 820201905), .lit (.int .u32 1098587580), .lit (.int .u32 1361435347), .lit (.int .u32 1640403810), .lit (.int .u32 1905808397), .lit (.int .u32 2197175160), .lit (.int .u32 2460548119), .lit (.int .u32 2722870694), .lit (.int .u32 2987750089), .lit (.int .u32 3280807620), .lit (.int .u32 3553878443), .lit (.int .u32 3811616794), .lit (.int .u32 4084100981)]

/-- 'flotsamlaw12.CleanOne': WHATEVER THE INPUT: true; the input reads as it did. -/
def cleanOneSpec : ChangeSpec := { name := "cleanOne", fn := fun _ => fun
  | [d] => { results := [.lit (.bool true)], args := [d] }
  | _ => none }
def cleanOneRow : OpenClaim := { program := "ytdclkhbolmbnmaadoor", sum := "052c5f8f486915a75e2fe7b88b9eb3bd438e7884a2be239fc9ab9c4916861945", func := "flotsam/flotsamlaw12.CleanOne", spec := "cleanOne", inPlace := ["internal/abi.NoEscape"], unfollowed := true, recurses := true, named := ["flotsam/crcc.nibbles"], apart := false, laid := [("flotsam/crcc.nibbles", laid_flotsam_crcc_nibbles)] }
def CleanOneSaid : Prop := cleanOneRow.holds Tryd.pinned (OpenSpec.ofChange cleanOneSpec)

/-- ITS FALSE NEIGHBOUR: 'it returns false'. Refute it at one input. -/
def cleanOneWrong : ChangeSpec := { name := "cleanOne", fn := fun _ => fun
  | [d] => { results := [.lit (.bool false)], args := [d] }
  | _ => none }
def CleanOneWrongFalsely : Prop := cleanOneRow.holds Tryd.pinned (OpenSpec.ofChange cleanOneWrong)

/-- 'flotsamlaw12.CleanKeeps': WHATEVER THE INPUT: true; the input reads as it did. -/
def cleanKeepsSpec : ChangeSpec := { name := "cleanKeeps", fn := fun _ => fun
  | [d] => { results := [.lit (.bool true)], args := [d] }
  | _ => none }
def cleanKeepsRow : OpenClaim := { program := "ytdclkhbolmbnmaadoor", sum := "052c5f8f486915a75e2fe7b88b9eb3bd438e7884a2be239fc9ab9c4916861945", func := "flotsam/flotsamlaw12.CleanKeeps", spec := "cleanKeeps", inPlace := ["internal/abi.NoEscape"], unfollowed := true, recurses := true, named := ["flotsam/crcc.nibbles"], apart := false, laid := [("flotsam/crcc.nibbles", laid_flotsam_crcc_nibbles)] }
def CleanKeepsSaid : Prop := cleanKeepsRow.holds Tryd.pinned (OpenSpec.ofChange cleanKeepsSpec)

/-- ITS FALSE NEIGHBOUR: 'it returns false'. Refute it at one input. -/
def cleanKeepsWrong : ChangeSpec := { name := "cleanKeeps", fn := fun _ => fun
  | [d] => { results := [.lit (.bool false)], args := [d] }
  | _ => none }
def CleanKeepsWrongFalsely : Prop := cleanKeepsRow.holds Tryd.pinned (OpenSpec.ofChange cleanKeepsWrong)

/-- 'flotsamlaw12.CleanBare': WHATEVER THE INPUT: true; the input reads as it did. -/
def cleanBareSpec : ChangeSpec := { name := "cleanBare", fn := fun _ => fun
  | [d1, d2, d3] => { results := [.lit (.bool true)], args := [d1, d2, d3] }
  | _ => none }
def cleanBareRow : OpenClaim := { program := "ytdclkhbolmbnmaadoor", sum := "052c5f8f486915a75e2fe7b88b9eb3bd438e7884a2be239fc9ab9c4916861945", func := "flotsam/flotsamlaw12.CleanBare", spec := "cleanBare", inPlace := ["internal/abi.NoEscape"], unfollowed := true, recurses := true, named := ["flotsam/crcc.nibbles"], apart := false, laid := [("flotsam/crcc.nibbles", laid_flotsam_crcc_nibbles)] }
def CleanBareSaid : Prop := cleanBareRow.holds Tryd.pinned (OpenSpec.ofChange cleanBareSpec)

/-- ITS FALSE NEIGHBOUR: 'it returns false'. Refute it at one input. -/
def cleanBareWrong : ChangeSpec := { name := "cleanBare", fn := fun _ => fun
  | [d1, d2, d3] => { results := [.lit (.bool false)], args := [d1, d2, d3] }
  | _ => none }
def CleanBareWrongFalsely : Prop := cleanBareRow.holds Tryd.pinned (OpenSpec.ofChange cleanBareWrong)

/- THE SECOND FORM. 'bulk': how many values and letters a reading holds, each counted each time it is reached (what is shared counts as often as it is met; a slice's spare places count too). A statement '..UptoSaid' is the law's where the arguments, and the package variables that the reading takes, are together of bulk at most 1048576: NARROWER than '..Said'. Prove '..Said' where nothing that the law and all that it calls make is longer than what came in: it says more and counts as full. Else prove '..UptoSaid'. A law counts once. -/
mutual
def uptoBulk {H : Type} : DataW H → Nat
  | .lit (.string bytes) => bytes.length + 1
  | .lit _ => 1
  | .nil => 1
  | .ptr d => uptoBulk d + 1
  | .slice elems spare => uptoBulkAll elems + uptoBulkAll spare + 1
  | .agg parts => uptoBulkAll parts + 1
  | .iface _ d => uptoBulk d + 1
  | .map entries => uptoBulkEntries entries + 1
  | .held _ => 1
def uptoBulkAll {H : Type} : List (DataW H) → Nat
  | [] => 0
  | d :: r => uptoBulk d + uptoBulkAll r
def uptoBulkEntries {H : Type} : List (Lit × DataW H) → Nat
  | [] => 0
  | x :: r => uptoBulkEntry x + uptoBulkEntries r
def uptoBulkEntry {H : Type} : Lit × DataW H → Nat
  | (.string bytes, d) => bytes.length + uptoBulk d + 1
  | (_, d) => uptoBulk d + 1
 end
def uptoSmall : (H : Type) → List (DataW H) → Bool := fun _ ds => decide (uptoBulkAll ds ≤ 1048576)
def OpenSpec.upto (s : _root_.Go.ChangeSpec) : _root_.Go.OpenSpec := { _root_.Go.OpenSpec.ofChange s with cond := some uptoSmall }

/-- 'flotsamlaw12.CleanOne', WHERE WHAT IT READS IS OF BULK AT MOST 1048576: true; the input reads as it did. -/
def cleanOneUptoRow : OpenClaim := { program := "ytdclkhbolmbnmaadoor", sum := "052c5f8f486915a75e2fe7b88b9eb3bd438e7884a2be239fc9ab9c4916861945", func := "flotsam/flotsamlaw12.CleanOne", spec := "cleanOne", inPlace := ["internal/abi.NoEscape"], unfollowed := true, recurses := true, named := ["flotsam/crcc.nibbles"], apart := false, laid := [("flotsam/crcc.nibbles", laid_flotsam_crcc_nibbles)], narrowed := true }
def CleanOneUptoSaid : Prop := cleanOneUptoRow.holds Tryd.pinned (OpenSpec.upto cleanOneSpec)

/-- 'flotsamlaw12.CleanKeeps', WHERE WHAT IT READS IS OF BULK AT MOST 1048576: true; the input reads as it did. -/
def cleanKeepsUptoRow : OpenClaim := { program := "ytdclkhbolmbnmaadoor", sum := "052c5f8f486915a75e2fe7b88b9eb3bd438e7884a2be239fc9ab9c4916861945", func := "flotsam/flotsamlaw12.CleanKeeps", spec := "cleanKeeps", inPlace := ["internal/abi.NoEscape"], unfollowed := true, recurses := true, named := ["flotsam/crcc.nibbles"], apart := false, laid := [("flotsam/crcc.nibbles", laid_flotsam_crcc_nibbles)], narrowed := true }
def CleanKeepsUptoSaid : Prop := cleanKeepsUptoRow.holds Tryd.pinned (OpenSpec.upto cleanKeepsSpec)

/-- 'flotsamlaw12.CleanBare', WHERE WHAT IT READS IS OF BULK AT MOST 1048576: true; the input reads as it did. -/
def cleanBareUptoRow : OpenClaim := { program := "ytdclkhbolmbnmaadoor", sum := "052c5f8f486915a75e2fe7b88b9eb3bd438e7884a2be239fc9ab9c4916861945", func := "flotsam/flotsamlaw12.CleanBare", spec := "cleanBare", inPlace := ["internal/abi.NoEscape"], unfollowed := true, recurses := true, named := ["flotsam/crcc.nibbles"], apart := false, laid := [("flotsam/crcc.nibbles", laid_flotsam_crcc_nibbles)], narrowed := true }
def CleanBareUptoSaid : Prop := cleanBareUptoRow.holds Tryd.pinned (OpenSpec.upto cleanBareSpec)

end Rows
end Go.Proofs.YtdclkhbolmbnmaaDoor
