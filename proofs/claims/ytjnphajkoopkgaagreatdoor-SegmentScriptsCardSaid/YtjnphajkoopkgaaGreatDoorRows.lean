/-
  NARROWER THAN 'FOR EVERY INPUT', by the rows' own cells (each row's printed sentence says how): SegmentScripts: laid · SegmentNil: laid · SegmentSafe: laid · SegmentAgain: laid.
  DERIVED. THE GIVEN ROWS OF THIS SEAT. 4 by the template 'for every input the law returns true; each argument reads behind the call as it read before'; 0 by the template 'total and deterministic' (their statements: YtjnphajkoopkgaaGreatDoorTotals.lean).
  GIVEN WITH THE SEED: the statements are not yours to turn. If you find one false, say at which input.
  Laid BY PROGRAM, IN A SANDBOX (cutbox-rows.mjs): the forced cells as the released guide's own fill.sh prints them over the translation 8b8a7842300d10c9… (all of the seat's roots in one cut). By AI agents, Wed Nov 11 2026. No macro, syntax, notation, axiom, sorry.
-/
import Derived.Test.YtjnphajkoopkgaaGreatDoorChecked
import GoSem.Claim
import GoSem.ClaimJoined
import GoSem.ClaimMapViews
import Derived.JoinedTies
import Derived.KernelRfl
namespace Go.Proofs.YtjnphajkoopkgaaGreatDoor
/- THE CELL 'sum', in the pinned program and in every row, IS THE sha256 OF THE DUMP (.gsa) THAT YtjnphajkoopkgaaGreatDoorProg.lean LOADS. Nothing in Lean hashes anything: it is a label: what it is worth is what the hold of that sum in a sandbox is worth. -/
noncomputable def Tryz.pinned : Pinned := { name := "ytjnphajkoopkgaagreatdoor", sum := "8b8a7842300d10c9225379e7aeb4ce5eb57a32a0cbcd4fe6445bb92928f1cf5d", checked := Tryz.checked }
namespace Rows
def none {H : Type} : Left H := { results := [], args := [] }

/- WHAT THE LISTED PACKAGE-LEVEL VARIABLES READ AS WHEN THE CALL BEGINS. Each datum BY PROGRAM (the guide's laid-datum.mjs) off the statement by which the dump's own 'gosem.cut.vars' lays the variable. In a bare row this is a premise. The card (YtjnphajkoopkgaaGreatDoorCards.lean) ties it to the program's text. -/
def laid_flotsam_crcc_nibbles {H : Type} : DataW H := .agg [.lit (.int .u32 0), .lit (.int .u32 274646895), .lit (.int .u32 549293790), .lit (.int .u32 820201905), .lit (.int .u32 1098587580), .lit (.int .u32 1361435347), .lit (.int .u32 1640403810), .lit (.int .u32 1905808397), .lit (.int .u32 2197175160), .lit (.int .u32 2460548119), .lit (.int .u32 2722870694), .lit (.int .u32 2987750089), .lit (.int .u32 3280807620), .lit (.int .u32 3553878443), .lit (.int .u32 3811616794), .lit (.int .u32 4084100981)]

/-- 'flotsamlaw10.SegmentScripts': WHATEVER THE INPUT: true; the input reads as it did. -/
def segmentScriptsSpec : ChangeSpec := { name := "segmentScripts", fn := fun _ => fun
  | [d] => { results := [.lit (.bool true)], args := [d] }
  | _ => none }
def segmentScriptsRow : OpenClaim := { program := "ytjnphajkoopkgaagreatdoor", sum := "8b8a7842300d10c9225379e7aeb4ce5eb57a32a0cbcd4fe6445bb92928f1cf5d", func := "flotsam/flotsamlaw10.SegmentScripts", spec := "segmentScripts", inPlace := ["internal/abi.NoEscape"], unfollowed := true, recurses := true, named := ["flotsam/crcc.nibbles"], apart := false, laid := [("flotsam/crcc.nibbles", laid_flotsam_crcc_nibbles)] }
def SegmentScriptsSaid : Prop := segmentScriptsRow.holds Tryz.pinned (OpenSpec.ofChange segmentScriptsSpec)

/-- ITS FALSE NEIGHBOUR: 'it returns false'. Refute it at one input. -/
def segmentScriptsWrong : ChangeSpec := { name := "segmentScripts", fn := fun _ => fun
  | [d] => { results := [.lit (.bool false)], args := [d] }
  | _ => none }
def SegmentScriptsWrongFalsely : Prop := segmentScriptsRow.holds Tryz.pinned (OpenSpec.ofChange segmentScriptsWrong)

/-- 'flotsamlaw10.SegmentNil': WHATEVER THE INPUT: true; the input reads as it did. -/
def segmentNilSpec : ChangeSpec := { name := "segmentNil", fn := fun _ => fun
  | [d] => { results := [.lit (.bool true)], args := [d] }
  | _ => none }
def segmentNilRow : OpenClaim := { program := "ytjnphajkoopkgaagreatdoor", sum := "8b8a7842300d10c9225379e7aeb4ce5eb57a32a0cbcd4fe6445bb92928f1cf5d", func := "flotsam/flotsamlaw10.SegmentNil", spec := "segmentNil", inPlace := ["internal/abi.NoEscape"], unfollowed := true, recurses := true, named := ["flotsam/crcc.nibbles"], apart := false, laid := [("flotsam/crcc.nibbles", laid_flotsam_crcc_nibbles)] }
def SegmentNilSaid : Prop := segmentNilRow.holds Tryz.pinned (OpenSpec.ofChange segmentNilSpec)

/-- ITS FALSE NEIGHBOUR: 'it returns false'. Refute it at one input. -/
def segmentNilWrong : ChangeSpec := { name := "segmentNil", fn := fun _ => fun
  | [d] => { results := [.lit (.bool false)], args := [d] }
  | _ => none }
def SegmentNilWrongFalsely : Prop := segmentNilRow.holds Tryz.pinned (OpenSpec.ofChange segmentNilWrong)

/-- 'flotsamlaw10.SegmentSafe': WHATEVER THE INPUT: true; the input reads as it did. -/
def segmentSafeSpec : ChangeSpec := { name := "segmentSafe", fn := fun _ => fun
  | [d1, d2, d3] => { results := [.lit (.bool true)], args := [d1, d2, d3] }
  | _ => none }
def segmentSafeRow : OpenClaim := { program := "ytjnphajkoopkgaagreatdoor", sum := "8b8a7842300d10c9225379e7aeb4ce5eb57a32a0cbcd4fe6445bb92928f1cf5d", func := "flotsam/flotsamlaw10.SegmentSafe", spec := "segmentSafe", inPlace := ["internal/abi.NoEscape"], unfollowed := true, recurses := true, named := ["flotsam/crcc.nibbles"], apart := false, laid := [("flotsam/crcc.nibbles", laid_flotsam_crcc_nibbles)] }
def SegmentSafeSaid : Prop := segmentSafeRow.holds Tryz.pinned (OpenSpec.ofChange segmentSafeSpec)

/-- ITS FALSE NEIGHBOUR: 'it returns false'. Refute it at one input. -/
def segmentSafeWrong : ChangeSpec := { name := "segmentSafe", fn := fun _ => fun
  | [d1, d2, d3] => { results := [.lit (.bool false)], args := [d1, d2, d3] }
  | _ => none }
def SegmentSafeWrongFalsely : Prop := segmentSafeRow.holds Tryz.pinned (OpenSpec.ofChange segmentSafeWrong)

/-- 'flotsamlaw10.SegmentAgain': WHATEVER THE INPUT: true; the input reads as it did. -/
def segmentAgainSpec : ChangeSpec := { name := "segmentAgain", fn := fun _ => fun
  | [d1, d2] => { results := [.lit (.bool true)], args := [d1, d2] }
  | _ => none }
def segmentAgainRow : OpenClaim := { program := "ytjnphajkoopkgaagreatdoor", sum := "8b8a7842300d10c9225379e7aeb4ce5eb57a32a0cbcd4fe6445bb92928f1cf5d", func := "flotsam/flotsamlaw10.SegmentAgain", spec := "segmentAgain", inPlace := ["internal/abi.NoEscape"], unfollowed := true, recurses := true, named := ["flotsam/crcc.nibbles"], apart := false, laid := [("flotsam/crcc.nibbles", laid_flotsam_crcc_nibbles)] }
def SegmentAgainSaid : Prop := segmentAgainRow.holds Tryz.pinned (OpenSpec.ofChange segmentAgainSpec)

/-- ITS FALSE NEIGHBOUR: 'it returns false'. Refute it at one input. -/
def segmentAgainWrong : ChangeSpec := { name := "segmentAgain", fn := fun _ => fun
  | [d1, d2] => { results := [.lit (.bool false)], args := [d1, d2] }
  | _ => none }
def SegmentAgainWrongFalsely : Prop := segmentAgainRow.holds Tryz.pinned (OpenSpec.ofChange segmentAgainWrong)

/- THE SECOND FORM. 'bulk': how many values and letters a reading holds, each counted each time it is reached (what is shared counts as often as it is met; a slice's spare places count too). A statement '..UptoSaid' is the law's where the arguments, and the package variables that the reading takes, are together of bulk at most 1048576: NARROWER than '..Said'. Prove '..Said' where nothing that the law and all that it calls make is longer than what came in: it says more and counts as full. Else prove '..UptoSaid'. A law counts once. -/
mutual
def uptoBulk {H : Type} : DataW H → Nat
  | .lit (.string bytes) => bytes.length + 1
  | .lit _ => 1
  | .nil => 1
  | .ptr d => uptoBulk d + 1
  | .slice elems spare => uptoBulkAll elems + uptoBulkAll spare + 1
  | .agg parts => uptoBulkAll parts + 1
  | .iface _ d => uptoBulk d + 1
  | .map entries => uptoBulkEntries entries + 1
  | .held _ => 1
def uptoBulkAll {H : Type} : List (DataW H) → Nat
  | [] => 0
  | d :: r => uptoBulk d + uptoBulkAll r
def uptoBulkEntries {H : Type} : List (Lit × DataW H) → Nat
  | [] => 0
  | x :: r => uptoBulkEntry x + uptoBulkEntries r
def uptoBulkEntry {H : Type} : Lit × DataW H → Nat
  | (.string bytes, d) => bytes.length + uptoBulk d + 1
  | (_, d) => uptoBulk d + 1
 end
def uptoSmall : (H : Type) → List (DataW H) → Bool := fun _ ds => decide (uptoBulkAll ds ≤ 1048576)
def OpenSpec.upto (s : _root_.Go.ChangeSpec) : _root_.Go.OpenSpec := { _root_.Go.OpenSpec.ofChange s with cond := some uptoSmall }

/-- 'flotsamlaw10.SegmentScripts', WHERE WHAT IT READS IS OF BULK AT MOST 1048576: true; the input reads as it did. -/
def segmentScriptsUptoRow : OpenClaim := { program := "ytjnphajkoopkgaagreatdoor", sum := "8b8a7842300d10c9225379e7aeb4ce5eb57a32a0cbcd4fe6445bb92928f1cf5d", func := "flotsam/flotsamlaw10.SegmentScripts", spec := "segmentScripts", inPlace := ["internal/abi.NoEscape"], unfollowed := true, recurses := true, named := ["flotsam/crcc.nibbles"], apart := false, laid := [("flotsam/crcc.nibbles", laid_flotsam_crcc_nibbles)], narrowed := true }
def SegmentScriptsUptoSaid : Prop := segmentScriptsUptoRow.holds Tryz.pinned (OpenSpec.upto segmentScriptsSpec)

/-- 'flotsamlaw10.SegmentNil', WHERE WHAT IT READS IS OF BULK AT MOST 1048576: true; the input reads as it did. -/
def segmentNilUptoRow : OpenClaim := { program := "ytjnphajkoopkgaagreatdoor", sum := "8b8a7842300d10c9225379e7aeb4ce5eb57a32a0cbcd4fe6445bb92928f1cf5d", func := "flotsam/flotsamlaw10.SegmentNil", spec := "segmentNil", inPlace := ["internal/abi.NoEscape"], unfollowed := true, recurses := true, named := ["flotsam/crcc.nibbles"], apart := false, laid := [("flotsam/crcc.nibbles", laid_flotsam_crcc_nibbles)], narrowed := true }
def SegmentNilUptoSaid : Prop := segmentNilUptoRow.holds Tryz.pinned (OpenSpec.upto segmentNilSpec)

/-- 'flotsamlaw10.SegmentSafe', WHERE WHAT IT READS IS OF BULK AT MOST 1048576: true; the input reads as it did. -/
def segmentSafeUptoRow : OpenClaim := { program := "ytjnphajkoopkgaagreatdoor", sum := "8b8a7842300d10c9225379e7aeb4ce5eb57a32a0cbcd4fe6445bb92928f1cf5d", func := "flotsam/flotsamlaw10.SegmentSafe", spec := "segmentSafe", inPlace := ["internal/abi.NoEscape"], unfollowed := true, recurses := true, named := ["flotsam/crcc.nibbles"], apart := false, laid := [("flotsam/crcc.nibbles", laid_flotsam_crcc_nibbles)], narrowed := true }
def SegmentSafeUptoSaid : Prop := segmentSafeUptoRow.holds Tryz.pinned (OpenSpec.upto segmentSafeSpec)

/-- 'flotsamlaw10.SegmentAgain', WHERE WHAT IT READS IS OF BULK AT MOST 1048576: true; the input reads as it did. -/
def segmentAgainUptoRow : OpenClaim := { program := "ytjnphajkoopkgaagreatdoor", sum := "8b8a7842300d10c9225379e7aeb4ce5eb57a32a0cbcd4fe6445bb92928f1cf5d", func := "flotsam/flotsamlaw10.SegmentAgain", spec := "segmentAgain", inPlace := ["internal/abi.NoEscape"], unfollowed := true, recurses := true, named := ["flotsam/crcc.nibbles"], apart := false, laid := [("flotsam/crcc.nibbles", laid_flotsam_crcc_nibbles)], narrowed := true }
def SegmentAgainUptoSaid : Prop := segmentAgainUptoRow.holds Tryz.pinned (OpenSpec.upto segmentAgainSpec)

end Rows
end Go.Proofs.YtjnphajkoopkgaaGreatDoor
