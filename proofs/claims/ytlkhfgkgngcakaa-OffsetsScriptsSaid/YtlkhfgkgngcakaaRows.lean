/-
  No cell of these rows narrows 'for every input' (looked for: loops, veiled, ifaces, maps, wideKeys, modest, calm, conditions, laid).
  DERIVED. THE GIVEN ROWS OF THIS SEAT. 5 by the template 'for every input the law returns true; each argument reads behind the call as it read before'; 0 by the template 'total and deterministic' (their statements: YtlkhfgkgngcakaaTotals.lean).
  GIVEN WITH THE SEED: the statements are not yours to turn. If you find one false, say at which input.
  Laid BY PROGRAM, IN A SANDBOX (cutbox-rows.mjs): the forced cells as the released guide's own fill.sh prints them over the translation e27bc8ef0bb0ff16… (all of the seat's roots in one cut). By AI agents, Wed Nov 11 2026. No macro, syntax, notation, axiom, sorry.
-/
import Derived.Test.YtlkhfgkgngcakaaChecked
import GoSem.Claim
import GoSem.ClaimJoined
import GoSem.ClaimMapViews
import Derived.JoinedTies
import Derived.KernelRfl
namespace Go.Proofs.Ytlkhfgkgngcakaa
/- THE CELL 'sum', in the pinned program and in every row, IS THE sha256 OF THE DUMP (.gsa) THAT YtlkhfgkgngcakaaProg.lean LOADS. Nothing in Lean hashes anything: it is a label: what it is worth is what the hold of that sum in a sandbox is worth. -/
noncomputable def Try.pinned : Pinned := { name := "ytlkhfgkgngcakaa", sum := "e27bc8ef0bb0ff1656cabe4b6c72256f2edb2497ef8b90c26be3bc6e12c2ec7f", checked := Try.checked }
namespace Rows
def none {H : Type} : Left H := { results := [], args := [] }

/-- 'flotsamlaw16.OffsetsScripts': WHATEVER THE INPUT: true; the input reads as it did. -/
def offsetsScriptsSpec : ChangeSpec := { name := "offsetsScripts", fn := fun _ => fun
  | [d1, d2] => { results := [.lit (.bool true)], args := [d1, d2] }
  | _ => none }
def offsetsScriptsRow : OpenClaim := { program := "ytlkhfgkgngcakaa", sum := "e27bc8ef0bb0ff1656cabe4b6c72256f2edb2497ef8b90c26be3bc6e12c2ec7f", func := "flotsam/flotsamlaw16.OffsetsScripts", spec := "offsetsScripts", inPlace := ["internal/abi.NoEscape", "internal/bytealg.abigen_runtime_cmpstring"], unfollowed := true, recurses := true, plainKeys := false, apart := false }
def OffsetsScriptsSaid : Prop := offsetsScriptsRow.holds Try.pinned (OpenSpec.ofChange offsetsScriptsSpec)

/-- ITS FALSE NEIGHBOUR: 'it returns false'. Refute it at one input. -/
def offsetsScriptsWrong : ChangeSpec := { name := "offsetsScripts", fn := fun _ => fun
  | [d1, d2] => { results := [.lit (.bool false)], args := [d1, d2] }
  | _ => none }
def OffsetsScriptsWrongFalsely : Prop := offsetsScriptsRow.holds Try.pinned (OpenSpec.ofChange offsetsScriptsWrong)

/-- 'flotsamlaw16.OffsetsNil': WHATEVER THE INPUT: true; the input reads as it did. -/
def offsetsNilSpec : ChangeSpec := { name := "offsetsNil", fn := fun _ => fun
  | [d] => { results := [.lit (.bool true)], args := [d] }
  | _ => none }
def offsetsNilRow : OpenClaim := { program := "ytlkhfgkgngcakaa", sum := "e27bc8ef0bb0ff1656cabe4b6c72256f2edb2497ef8b90c26be3bc6e12c2ec7f", func := "flotsam/flotsamlaw16.OffsetsNil", spec := "offsetsNil", inPlace := ["internal/bytealg.abigen_runtime_cmpstring", "internal/abi.NoEscape"], unfollowed := true, recurses := true, plainKeys := false, apart := false }
def OffsetsNilSaid : Prop := offsetsNilRow.holds Try.pinned (OpenSpec.ofChange offsetsNilSpec)

/-- ITS FALSE NEIGHBOUR: 'it returns false'. Refute it at one input. -/
def offsetsNilWrong : ChangeSpec := { name := "offsetsNil", fn := fun _ => fun
  | [d] => { results := [.lit (.bool false)], args := [d] }
  | _ => none }
def OffsetsNilWrongFalsely : Prop := offsetsNilRow.holds Try.pinned (OpenSpec.ofChange offsetsNilWrong)

/-- 'flotsamlaw16.OffsetsLast': WHATEVER THE INPUT: true; the input reads as it did. -/
def offsetsLastSpec : ChangeSpec := { name := "offsetsLast", fn := fun _ => fun
  | [d] => { results := [.lit (.bool true)], args := [d] }
  | _ => none }
def offsetsLastRow : OpenClaim := { program := "ytlkhfgkgngcakaa", sum := "e27bc8ef0bb0ff1656cabe4b6c72256f2edb2497ef8b90c26be3bc6e12c2ec7f", func := "flotsam/flotsamlaw16.OffsetsLast", spec := "offsetsLast", inPlace := ["internal/abi.NoEscape", "internal/bytealg.abigen_runtime_cmpstring"], unfollowed := true, recurses := true, plainKeys := false, apart := false }
def OffsetsLastSaid : Prop := offsetsLastRow.holds Try.pinned (OpenSpec.ofChange offsetsLastSpec)

/-- ITS FALSE NEIGHBOUR: 'it returns false'. Refute it at one input. -/
def offsetsLastWrong : ChangeSpec := { name := "offsetsLast", fn := fun _ => fun
  | [d] => { results := [.lit (.bool false)], args := [d] }
  | _ => none }
def OffsetsLastWrongFalsely : Prop := offsetsLastRow.holds Try.pinned (OpenSpec.ofChange offsetsLastWrong)

/-- 'flotsamlaw16.OffsetsApart': WHATEVER THE INPUT: true; the input reads as it did. -/
def offsetsApartSpec : ChangeSpec := { name := "offsetsApart", fn := fun _ => fun
  | [d1, d2] => { results := [.lit (.bool true)], args := [d1, d2] }
  | _ => none }
def offsetsApartRow : OpenClaim := { program := "ytlkhfgkgngcakaa", sum := "e27bc8ef0bb0ff1656cabe4b6c72256f2edb2497ef8b90c26be3bc6e12c2ec7f", func := "flotsam/flotsamlaw16.OffsetsApart", spec := "offsetsApart", inPlace := ["internal/abi.NoEscape", "internal/bytealg.abigen_runtime_cmpstring"], unfollowed := true, recurses := true, plainKeys := false, apart := false }
def OffsetsApartSaid : Prop := offsetsApartRow.holds Try.pinned (OpenSpec.ofChange offsetsApartSpec)

/-- ITS FALSE NEIGHBOUR: 'it returns false'. Refute it at one input. -/
def offsetsApartWrong : ChangeSpec := { name := "offsetsApart", fn := fun _ => fun
  | [d1, d2] => { results := [.lit (.bool false)], args := [d1, d2] }
  | _ => none }
def OffsetsApartWrongFalsely : Prop := offsetsApartRow.holds Try.pinned (OpenSpec.ofChange offsetsApartWrong)

/-- 'flotsamlaw16.OffsetsRise': WHATEVER THE INPUT: true; the input reads as it did. -/
def offsetsRiseSpec : ChangeSpec := { name := "offsetsRise", fn := fun _ => fun
  | [d] => { results := [.lit (.bool true)], args := [d] }
  | _ => none }
def offsetsRiseRow : OpenClaim := { program := "ytlkhfgkgngcakaa", sum := "e27bc8ef0bb0ff1656cabe4b6c72256f2edb2497ef8b90c26be3bc6e12c2ec7f", func := "flotsam/flotsamlaw16.OffsetsRise", spec := "offsetsRise", inPlace := ["internal/abi.NoEscape", "internal/bytealg.abigen_runtime_cmpstring"], unfollowed := true, recurses := true, plainKeys := false, apart := false }
def OffsetsRiseSaid : Prop := offsetsRiseRow.holds Try.pinned (OpenSpec.ofChange offsetsRiseSpec)

/-- ITS FALSE NEIGHBOUR: 'it returns false'. Refute it at one input. -/
def offsetsRiseWrong : ChangeSpec := { name := "offsetsRise", fn := fun _ => fun
  | [d] => { results := [.lit (.bool false)], args := [d] }
  | _ => none }
def OffsetsRiseWrongFalsely : Prop := offsetsRiseRow.holds Try.pinned (OpenSpec.ofChange offsetsRiseWrong)

/- THE SECOND FORM. 'bulk': how many values and letters a reading holds, each counted each time it is reached (what is shared counts as often as it is met; a slice's spare places count too). A statement '..UptoSaid' is the law's where the arguments, and the package variables that the reading takes, are together of bulk at most 1048576: NARROWER than '..Said'. Prove '..Said' where nothing that the law and all that it calls make is longer than what came in: it says more and counts as full. Else prove '..UptoSaid'. A law counts once. -/
mutual
def uptoBulk {H : Type} : DataW H → Nat
  | .lit (.string bytes) => bytes.length + 1
  | .lit _ => 1
  | .nil => 1
  | .ptr d => uptoBulk d + 1
  | .slice elems spare => uptoBulkAll elems + uptoBulkAll spare + 1
  | .agg parts => uptoBulkAll parts + 1
  | .iface _ d => uptoBulk d + 1
  | .map entries => uptoBulkEntries entries + 1
  | .held _ => 1
def uptoBulkAll {H : Type} : List (DataW H) → Nat
  | [] => 0
  | d :: r => uptoBulk d + uptoBulkAll r
def uptoBulkEntries {H : Type} : List (Lit × DataW H) → Nat
  | [] => 0
  | x :: r => uptoBulkEntry x + uptoBulkEntries r
def uptoBulkEntry {H : Type} : Lit × DataW H → Nat
  | (.string bytes, d) => bytes.length + uptoBulk d + 1
  | (_, d) => uptoBulk d + 1
 end
def uptoSmall : (H : Type) → List (DataW H) → Bool := fun _ ds => decide (uptoBulkAll ds ≤ 1048576)
def OpenSpec.upto (s : _root_.Go.ChangeSpec) : _root_.Go.OpenSpec := { _root_.Go.OpenSpec.ofChange s with cond := some uptoSmall }

/-- 'flotsamlaw16.OffsetsScripts', WHERE WHAT IT READS IS OF BULK AT MOST 1048576: true; the input reads as it did. -/
def offsetsScriptsUptoRow : OpenClaim := { program := "ytlkhfgkgngcakaa", sum := "e27bc8ef0bb0ff1656cabe4b6c72256f2edb2497ef8b90c26be3bc6e12c2ec7f", func := "flotsam/flotsamlaw16.OffsetsScripts", spec := "offsetsScripts", inPlace := ["internal/abi.NoEscape", "internal/bytealg.abigen_runtime_cmpstring"], unfollowed := true, recurses := true, plainKeys := false, apart := false, narrowed := true }
def OffsetsScriptsUptoSaid : Prop := offsetsScriptsUptoRow.holds Try.pinned (OpenSpec.upto offsetsScriptsSpec)

/-- 'flotsamlaw16.OffsetsNil', WHERE WHAT IT READS IS OF BULK AT MOST 1048576: true; the input reads as it did. -/
def offsetsNilUptoRow : OpenClaim := { program := "ytlkhfgkgngcakaa", sum := "e27bc8ef0bb0ff1656cabe4b6c72256f2edb2497ef8b90c26be3bc6e12c2ec7f", func := "flotsam/flotsamlaw16.OffsetsNil", spec := "offsetsNil", inPlace := ["internal/bytealg.abigen_runtime_cmpstring", "internal/abi.NoEscape"], unfollowed := true, recurses := true, plainKeys := false, apart := false, narrowed := true }
def OffsetsNilUptoSaid : Prop := offsetsNilUptoRow.holds Try.pinned (OpenSpec.upto offsetsNilSpec)

/-- 'flotsamlaw16.OffsetsLast', WHERE WHAT IT READS IS OF BULK AT MOST 1048576: true; the input reads as it did. -/
def offsetsLastUptoRow : OpenClaim := { program := "ytlkhfgkgngcakaa", sum := "e27bc8ef0bb0ff1656cabe4b6c72256f2edb2497ef8b90c26be3bc6e12c2ec7f", func := "flotsam/flotsamlaw16.OffsetsLast", spec := "offsetsLast", inPlace := ["internal/abi.NoEscape", "internal/bytealg.abigen_runtime_cmpstring"], unfollowed := true, recurses := true, plainKeys := false, apart := false, narrowed := true }
def OffsetsLastUptoSaid : Prop := offsetsLastUptoRow.holds Try.pinned (OpenSpec.upto offsetsLastSpec)

/-- 'flotsamlaw16.OffsetsApart', WHERE WHAT IT READS IS OF BULK AT MOST 1048576: true; the input reads as it did. -/
def offsetsApartUptoRow : OpenClaim := { program := "ytlkhfgkgngcakaa", sum := "e27bc8ef0bb0ff1656cabe4b6c72256f2edb2497ef8b90c26be3bc6e12c2ec7f", func := "flotsam/flotsamlaw16.OffsetsApart", spec := "offsetsApart", inPlace := ["internal/abi.NoEscape", "internal/bytealg.abigen_runtime_cmpstring"], unfollowed := true, recurses := true, plainKeys := false, apart := false, narrowed := true }
def OffsetsApartUptoSaid : Prop := offsetsApartUptoRow.holds Try.pinned (OpenSpec.upto offsetsApartSpec)

/-- 'flotsamlaw16.OffsetsRise', WHERE WHAT IT READS IS OF BULK AT MOST 1048576: true; the input reads as it did. -/
def offsetsRiseUptoRow : OpenClaim := { program := "ytlkhfgkgngcakaa", sum := "e27bc8ef0bb0ff1656cabe4b6c72256f2edb2497ef8b90c26be3bc6e12c2ec7f", func := "flotsam/flotsamlaw16.OffsetsRise", spec := "offsetsRise", inPlace := ["internal/abi.NoEscape", "internal/bytealg.abigen_runtime_cmpstring"], unfollowed := true, recurses := true, plainKeys := false, apart := false, narrowed := true }
def OffsetsRiseUptoSaid : Prop := offsetsRiseUptoRow.holds Try.pinned (OpenSpec.upto offsetsRiseSpec)

end Rows
end Go.Proofs.Ytlkhfgkgngcakaa
