/-
  No cell of these rows narrows 'for every input' (looked for: loops, veiled, ifaces, maps, wideKeys, modest, calm, conditions, laid).
  DERIVED. THE GIVEN ROWS OF THIS SEAT. 5 by the template 'for every input the law returns true; each argument reads behind the call as it read before'; 0 by the template 'total and deterministic' (their statements: YtljgiabaekddlaaTotals.lean).
  GIVEN WITH THE SEED: the statements are not yours to turn. If you find one false, say at which input.
  Laid BY PROGRAM, IN A SANDBOX (cutbox-rows.mjs): the forced cells as the released guide's own fill.sh prints them over the translation 7a7cef8084177657… (all of the seat's roots in one cut). By AI agents, Wed Nov 11 2026. No macro, syntax, notation, axiom, sorry.
-/
import Derived.Test.YtljgiabaekddlaaChecked
import GoSem.Claim
import GoSem.ClaimJoined
import GoSem.ClaimMapViews
import Derived.JoinedTies
import Derived.KernelRfl
namespace Go.Proofs.Ytljgiabaekddlaa
/- THE CELL 'sum', in the pinned program and in every row, IS THE sha256 OF THE DUMP (.gsa) THAT YtljgiabaekddlaaProg.lean LOADS. Nothing in Lean hashes anything: it is a label: what it is worth is what the hold of that sum in a sandbox is worth. -/
noncomputable def Try.pinned : Pinned := { name := "ytljgiabaekddlaa", sum := "7a7cef80841776573bc1fa31452040db07419aea450be83748bdf59d40e5525c", checked := Try.checked }
namespace Rows
def none {H : Type} : Left H := { results := [], args := [] }

/-- 'flotsamlaw09.IndexScripts': WHATEVER THE INPUT: true; the input reads as it did. -/
def indexScriptsSpec : ChangeSpec := { name := "indexScripts", fn := fun _ => fun
  | [d1, d2, d3] => { results := [.lit (.bool true)], args := [d1, d2, d3] }
  | _ => none }
def indexScriptsRow : OpenClaim := { program := "ytljgiabaekddlaa", sum := "7a7cef80841776573bc1fa31452040db07419aea450be83748bdf59d40e5525c", func := "flotsam/flotsamlaw09.IndexScripts", spec := "indexScripts", unfollowed := true, recurses := true, apart := false }
def IndexScriptsSaid : Prop := indexScriptsRow.holds Try.pinned (OpenSpec.ofChange indexScriptsSpec)

/-- ITS FALSE NEIGHBOUR: 'it returns false'. Refute it at one input. -/
def indexScriptsWrong : ChangeSpec := { name := "indexScripts", fn := fun _ => fun
  | [d1, d2, d3] => { results := [.lit (.bool false)], args := [d1, d2, d3] }
  | _ => none }
def IndexScriptsWrongFalsely : Prop := indexScriptsRow.holds Try.pinned (OpenSpec.ofChange indexScriptsWrong)

/-- 'flotsamlaw09.IndexNil': WHATEVER THE INPUT: true; the input reads as it did. -/
def indexNilSpec : ChangeSpec := { name := "indexNil", fn := fun _ => fun
  | [d] => { results := [.lit (.bool true)], args := [d] }
  | _ => none }
def indexNilRow : OpenClaim := { program := "ytljgiabaekddlaa", sum := "7a7cef80841776573bc1fa31452040db07419aea450be83748bdf59d40e5525c", func := "flotsam/flotsamlaw09.IndexNil", spec := "indexNil", unfollowed := true, recurses := true, apart := false }
def IndexNilSaid : Prop := indexNilRow.holds Try.pinned (OpenSpec.ofChange indexNilSpec)

/-- ITS FALSE NEIGHBOUR: 'it returns false'. Refute it at one input. -/
def indexNilWrong : ChangeSpec := { name := "indexNil", fn := fun _ => fun
  | [d] => { results := [.lit (.bool false)], args := [d] }
  | _ => none }
def IndexNilWrongFalsely : Prop := indexNilRow.holds Try.pinned (OpenSpec.ofChange indexNilWrong)

/-- 'flotsamlaw09.IndexAhead': WHATEVER THE INPUT: true; the input reads as it did. -/
def indexAheadSpec : ChangeSpec := { name := "indexAhead", fn := fun _ => fun
  | [d] => { results := [.lit (.bool true)], args := [d] }
  | _ => none }
def indexAheadRow : OpenClaim := { program := "ytljgiabaekddlaa", sum := "7a7cef80841776573bc1fa31452040db07419aea450be83748bdf59d40e5525c", func := "flotsam/flotsamlaw09.IndexAhead", spec := "indexAhead", unfollowed := true, recurses := true, apart := false }
def IndexAheadSaid : Prop := indexAheadRow.holds Try.pinned (OpenSpec.ofChange indexAheadSpec)

/-- ITS FALSE NEIGHBOUR: 'it returns false'. Refute it at one input. -/
def indexAheadWrong : ChangeSpec := { name := "indexAhead", fn := fun _ => fun
  | [d] => { results := [.lit (.bool false)], args := [d] }
  | _ => none }
def IndexAheadWrongFalsely : Prop := indexAheadRow.holds Try.pinned (OpenSpec.ofChange indexAheadWrong)

/-- 'flotsamlaw09.IndexSparse': WHATEVER THE INPUT: true; the input reads as it did. -/
def indexSparseSpec : ChangeSpec := { name := "indexSparse", fn := fun _ => fun
  | [d1, d2] => { results := [.lit (.bool true)], args := [d1, d2] }
  | _ => none }
def indexSparseRow : OpenClaim := { program := "ytljgiabaekddlaa", sum := "7a7cef80841776573bc1fa31452040db07419aea450be83748bdf59d40e5525c", func := "flotsam/flotsamlaw09.IndexSparse", spec := "indexSparse", unfollowed := true, recurses := true, apart := false }
def IndexSparseSaid : Prop := indexSparseRow.holds Try.pinned (OpenSpec.ofChange indexSparseSpec)

/-- ITS FALSE NEIGHBOUR: 'it returns false'. Refute it at one input. -/
def indexSparseWrong : ChangeSpec := { name := "indexSparse", fn := fun _ => fun
  | [d1, d2] => { results := [.lit (.bool false)], args := [d1, d2] }
  | _ => none }
def IndexSparseWrongFalsely : Prop := indexSparseRow.holds Try.pinned (OpenSpec.ofChange indexSparseWrong)

/-- 'flotsamlaw09.IndexLess': WHATEVER THE INPUT: true; the input reads as it did. -/
def indexLessSpec : ChangeSpec := { name := "indexLess", fn := fun _ => fun
  | [d1, d2, d3] => { results := [.lit (.bool true)], args := [d1, d2, d3] }
  | _ => none }
def indexLessRow : OpenClaim := { program := "ytljgiabaekddlaa", sum := "7a7cef80841776573bc1fa31452040db07419aea450be83748bdf59d40e5525c", func := "flotsam/flotsamlaw09.IndexLess", spec := "indexLess", unfollowed := true, recurses := true, apart := false }
def IndexLessSaid : Prop := indexLessRow.holds Try.pinned (OpenSpec.ofChange indexLessSpec)

/-- ITS FALSE NEIGHBOUR: 'it returns false'. Refute it at one input. -/
def indexLessWrong : ChangeSpec := { name := "indexLess", fn := fun _ => fun
  | [d1, d2, d3] => { results := [.lit (.bool false)], args := [d1, d2, d3] }
  | _ => none }
def IndexLessWrongFalsely : Prop := indexLessRow.holds Try.pinned (OpenSpec.ofChange indexLessWrong)

/- THE SECOND FORM. 'bulk': how many values and letters a reading holds, each counted each time it is reached (what is shared counts as often as it is met; a slice's spare places count too). A statement '..UptoSaid' is the law's where the arguments, and the package variables that the reading takes, are together of bulk at most 1048576: NARROWER than '..Said'. Prove '..Said' where nothing that the law and all that it calls make is longer than what came in: it says more and counts as full. Else prove '..UptoSaid'. A law counts once. -/
mutual
def uptoBulk {H : Type} : DataW H → Nat
  | .lit (.string bytes) => bytes.length + 1
  | .lit _ => 1
  | .nil => 1
  | .ptr d => uptoBulk d + 1
  | .slice elems spare => uptoBulkAll elems + uptoBulkAll spare + 1
  | .agg parts => uptoBulkAll parts + 1
  | .iface _ d => uptoBulk d + 1
  | .map entries => uptoBulkEntries entries + 1
  | .held _ => 1
def uptoBulkAll {H : Type} : List (DataW H) → Nat
  | [] => 0
  | d :: r => uptoBulk d + uptoBulkAll r
def uptoBulkEntries {H : Type} : List (Lit × DataW H) → Nat
  | [] => 0
  | x :: r => uptoBulkEntry x + uptoBulkEntries r
def uptoBulkEntry {H : Type} : Lit × DataW H → Nat
  | (.string bytes, d) => bytes.length + uptoBulk d + 1
  | (_, d) => uptoBulk d + 1
 end
def uptoSmall : (H : Type) → List (DataW H) → Bool := fun _ ds => decide (uptoBulkAll ds ≤ 1048576)
def OpenSpec.upto (s : _root_.Go.ChangeSpec) : _root_.Go.OpenSpec := { _root_.Go.OpenSpec.ofChange s with cond := some uptoSmall }

/-- 'flotsamlaw09.IndexScripts', WHERE WHAT IT READS IS OF BULK AT MOST 1048576: true; the input reads as it did. -/
def indexScriptsUptoRow : OpenClaim := { program := "ytljgiabaekddlaa", sum := "7a7cef80841776573bc1fa31452040db07419aea450be83748bdf59d40e5525c", func := "flotsam/flotsamlaw09.IndexScripts", spec := "indexScripts", unfollowed := true, recurses := true, apart := false, narrowed := true }
def IndexScriptsUptoSaid : Prop := indexScriptsUptoRow.holds Try.pinned (OpenSpec.upto indexScriptsSpec)

/-- 'flotsamlaw09.IndexNil', WHERE WHAT IT READS IS OF BULK AT MOST 1048576: true; the input reads as it did. -/
def indexNilUptoRow : OpenClaim := { program := "ytljgiabaekddlaa", sum := "7a7cef80841776573bc1fa31452040db07419aea450be83748bdf59d40e5525c", func := "flotsam/flotsamlaw09.IndexNil", spec := "indexNil", unfollowed := true, recurses := true, apart := false, narrowed := true }
def IndexNilUptoSaid : Prop := indexNilUptoRow.holds Try.pinned (OpenSpec.upto indexNilSpec)

/-- 'flotsamlaw09.IndexAhead', WHERE WHAT IT READS IS OF BULK AT MOST 1048576: true; the input reads as it did. -/
def indexAheadUptoRow : OpenClaim := { program := "ytljgiabaekddlaa", sum := "7a7cef80841776573bc1fa31452040db07419aea450be83748bdf59d40e5525c", func := "flotsam/flotsamlaw09.IndexAhead", spec := "indexAhead", unfollowed := true, recurses := true, apart := false, narrowed := true }
def IndexAheadUptoSaid : Prop := indexAheadUptoRow.holds Try.pinned (OpenSpec.upto indexAheadSpec)

/-- 'flotsamlaw09.IndexSparse', WHERE WHAT IT READS IS OF BULK AT MOST 1048576: true; the input reads as it did. -/
def indexSparseUptoRow : OpenClaim := { program := "ytljgiabaekddlaa", sum := "7a7cef80841776573bc1fa31452040db07419aea450be83748bdf59d40e5525c", func := "flotsam/flotsamlaw09.IndexSparse", spec := "indexSparse", unfollowed := true, recurses := true, apart := false, narrowed := true }
def IndexSparseUptoSaid : Prop := indexSparseUptoRow.holds Try.pinned (OpenSpec.upto indexSparseSpec)

/-- 'flotsamlaw09.IndexLess', WHERE WHAT IT READS IS OF BULK AT MOST 1048576: true; the input reads as it did. -/
def indexLessUptoRow : OpenClaim := { program := "ytljgiabaekddlaa", sum := "7a7cef80841776573bc1fa31452040db07419aea450be83748bdf59d40e5525c", func := "flotsam/flotsamlaw09.IndexLess", spec := "indexLess", unfollowed := true, recurses := true, apart := false, narrowed := true }
def IndexLessUptoSaid : Prop := indexLessUptoRow.holds Try.pinned (OpenSpec.upto indexLessSpec)

end Rows
end Go.Proofs.Ytljgiabaekddlaa
