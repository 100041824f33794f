/-
  NARROWER THAN 'FOR EVERY INPUT', by the rows' own cells (each row's printed sentence says how): MatchOne: loops, laid · MatchPicks: loops, laid · MatchLaws: loops, laid · MatchHeaders: laid · MatchTurned: loops, laid · MatchAll: loops, laid.
  DERIVED. THE GIVEN ROWS OF THIS SEAT. 6 by the template 'for every input the law returns true; each argument reads behind the call as it read before'; 0 by the template 'total and deterministic' (their statements: YtmnmgbbdjpfonaaDoorTotals.lean).
  GIVEN WITH THE SEED: the statements are not yours to turn. If you find one false, say at which input.
  Laid BY PROGRAM, IN A SANDBOX (cutbox-rows.mjs): the forced cells as the released guide's own fill.sh prints them over the translation 3db98c801aaa26fd… (all of the seat's roots in one cut). By AI agents, Wed Nov 11 2026. No macro, syntax, notation, axiom, sorry.
-/
import Derived.Test.YtmnmgbbdjpfonaaDoorChecked
import GoSem.PinnedTables
import GoSem.Claim
import GoSem.ClaimJoined
import GoSem.ClaimMapViews
import Derived.JoinedTies
import Derived.KernelRfl
namespace Go.Proofs.YtmnmgbbdjpfonaaDoor
/- THE CELL 'sum', in the pinned program and in every row, IS THE sha256 OF THE DUMP (.gsa) THAT YtmnmgbbdjpfonaaDoorProg.lean LOADS. Nothing in Lean hashes anything: it is a label: what it is worth is what the hold of that sum in a sandbox is worth. -/
noncomputable def Tryd.pinned : Pinned := { name := "ytmnmgbbdjpfonaadoor", sum := "3db98c801aaa26fd656625bf4d6096d462576a5e0d3d7ca2c805aa152ebbf0eb", checked := Tryd.checked }
namespace Rows
def none {H : Type} : Left H := { results := [], args := [] }

/- WHAT THE LISTED PACKAGE-LEVEL VARIABLES READ AS WHEN THE CALL BEGINS. Each datum BY PROGRAM (the guide's laid-datum.mjs) off the statement by which the dump's own 'gosem.cut.vars' lays the variable. In a bare row this is a premise. The card (YtmnmgbbdjpfonaaDoorCards.lean) ties it to the program's text. -/
def laid_unicode_utf8_acceptRanges {H : Type} : DataW H := .agg [.agg [.lit (.int .u8 128), .lit (.int .u8 191)], .agg [.lit (.int .u8 160), .lit (.int .u8 191)], .agg [.lit (.int .u8 128), .lit (.int .u8 159)], .agg [.lit (.int .u8 144), .lit (.int .u8 191)], .agg [.lit (.int .u8 128), .lit (.int .u8 143)], .agg [.lit (.int .u8 0), .lit (.int .u8 0)], .agg [.lit (.int .u8 0), .lit (.int .u8 0)], .agg [.lit (.int .u8 0), .lit (.int .u8 0)], .agg [.lit (.int .u8 0), .lit (.int .u8 0)], .agg [.lit (.int .u8 0), .lit (.int .u8 0)], .agg [.lit (.int .u8 0), .lit (.int .u8 0)], .agg [.lit (.int .u8 0), .lit (.int .u8 0)], .agg [.lit (.int .u8 0), .lit (.int .u8 0)], .agg [.lit (.int .u8 0), .lit (.int .u8 0)], .agg [.lit (.int .u8 0), .lit (.int .u8 0)], .agg [.lit (.int .u8 0), .lit (.int .u8 0)]]
/-- One of Go's own tables, pinned by name: the form's constant. -/
def laid_unicode_utf8_first : DataW Unit := Go.Pinned.utf8First

/-- 'flotsamlaw08.MatchOne': WHATEVER THE INPUT: true; the input reads as it did. -/
def matchOneSpec : ChangeSpec := { name := "matchOne", fn := fun _ => fun
  | [d1, d2] => { results := [.lit (.bool true)], args := [d1, d2] }
  | _ => none }
def matchOneRow : OpenClaim := { program := "ytmnmgbbdjpfonaadoor", sum := "3db98c801aaa26fd656625bf4d6096d462576a5e0d3d7ca2c805aa152ebbf0eb", func := "flotsam/flotsamlaw08.MatchOne", spec := "matchOne", unfollowed := true, recurses := true, named := ["unicode/utf8.first", "unicode/utf8.acceptRanges"], loops := true, apart := false, laid := [("unicode/utf8.acceptRanges", laid_unicode_utf8_acceptRanges), ("unicode/utf8.first", laid_unicode_utf8_first)] }
def MatchOneSaid : Prop := matchOneRow.holds Tryd.pinned (OpenSpec.ofChange matchOneSpec)

/-- ITS FALSE NEIGHBOUR: 'it returns false'. Refute it at one input. -/
def matchOneWrong : ChangeSpec := { name := "matchOne", fn := fun _ => fun
  | [d1, d2] => { results := [.lit (.bool false)], args := [d1, d2] }
  | _ => none }
def MatchOneWrongFalsely : Prop := matchOneRow.holds Tryd.pinned (OpenSpec.ofChange matchOneWrong)

/-- 'flotsamlaw08.MatchPicks': WHATEVER THE INPUT: true; the input reads as it did. -/
def matchPicksSpec : ChangeSpec := { name := "matchPicks", fn := fun _ => fun
  | [d1, d2] => { results := [.lit (.bool true)], args := [d1, d2] }
  | _ => none }
def matchPicksRow : OpenClaim := { program := "ytmnmgbbdjpfonaadoor", sum := "3db98c801aaa26fd656625bf4d6096d462576a5e0d3d7ca2c805aa152ebbf0eb", func := "flotsam/flotsamlaw08.MatchPicks", spec := "matchPicks", unfollowed := true, recurses := true, named := ["unicode/utf8.first", "unicode/utf8.acceptRanges"], loops := true, apart := false, laid := [("unicode/utf8.acceptRanges", laid_unicode_utf8_acceptRanges), ("unicode/utf8.first", laid_unicode_utf8_first)] }
def MatchPicksSaid : Prop := matchPicksRow.holds Tryd.pinned (OpenSpec.ofChange matchPicksSpec)

/-- ITS FALSE NEIGHBOUR: 'it returns false'. Refute it at one input. -/
def matchPicksWrong : ChangeSpec := { name := "matchPicks", fn := fun _ => fun
  | [d1, d2] => { results := [.lit (.bool false)], args := [d1, d2] }
  | _ => none }
def MatchPicksWrongFalsely : Prop := matchPicksRow.holds Tryd.pinned (OpenSpec.ofChange matchPicksWrong)

/-- 'flotsamlaw08.MatchLaws': WHATEVER THE INPUT: true; the input reads as it did. -/
def matchLawsSpec : ChangeSpec := { name := "matchLaws", fn := fun _ => fun
  | [d1, d2, d3] => { results := [.lit (.bool true)], args := [d1, d2, d3] }
  | _ => none }
def matchLawsRow : OpenClaim := { program := "ytmnmgbbdjpfonaadoor", sum := "3db98c801aaa26fd656625bf4d6096d462576a5e0d3d7ca2c805aa152ebbf0eb", func := "flotsam/flotsamlaw08.MatchLaws", spec := "matchLaws", unfollowed := true, recurses := true, named := ["unicode/utf8.first", "unicode/utf8.acceptRanges"], loops := true, apart := false, laid := [("unicode/utf8.acceptRanges", laid_unicode_utf8_acceptRanges), ("unicode/utf8.first", laid_unicode_utf8_first)] }
def MatchLawsSaid : Prop := matchLawsRow.holds Tryd.pinned (OpenSpec.ofChange matchLawsSpec)

/-- ITS FALSE NEIGHBOUR: 'it returns false'. Refute it at one input. -/
def matchLawsWrong : ChangeSpec := { name := "matchLaws", fn := fun _ => fun
  | [d1, d2, d3] => { results := [.lit (.bool false)], args := [d1, d2, d3] }
  | _ => none }
def MatchLawsWrongFalsely : Prop := matchLawsRow.holds Tryd.pinned (OpenSpec.ofChange matchLawsWrong)

/-- 'flotsamlaw08.MatchHeaders': WHATEVER THE INPUT: true; the input reads as it did. -/
def matchHeadersSpec : ChangeSpec := { name := "matchHeaders", fn := fun _ => fun
  | [d1, d2, d3] => { results := [.lit (.bool true)], args := [d1, d2, d3] }
  | _ => none }
def matchHeadersRow : OpenClaim := { program := "ytmnmgbbdjpfonaadoor", sum := "3db98c801aaa26fd656625bf4d6096d462576a5e0d3d7ca2c805aa152ebbf0eb", func := "flotsam/flotsamlaw08.MatchHeaders", spec := "matchHeaders", unfollowed := true, recurses := true, named := ["unicode/utf8.first", "unicode/utf8.acceptRanges"], apart := false, laid := [("unicode/utf8.acceptRanges", laid_unicode_utf8_acceptRanges), ("unicode/utf8.first", laid_unicode_utf8_first)] }
def MatchHeadersSaid : Prop := matchHeadersRow.holds Tryd.pinned (OpenSpec.ofChange matchHeadersSpec)

/-- ITS FALSE NEIGHBOUR: 'it returns false'. Refute it at one input. -/
def matchHeadersWrong : ChangeSpec := { name := "matchHeaders", fn := fun _ => fun
  | [d1, d2, d3] => { results := [.lit (.bool false)], args := [d1, d2, d3] }
  | _ => none }
def MatchHeadersWrongFalsely : Prop := matchHeadersRow.holds Tryd.pinned (OpenSpec.ofChange matchHeadersWrong)

/-- 'flotsamlaw08.MatchTurned': WHATEVER THE INPUT: true; the input reads as it did. -/
def matchTurnedSpec : ChangeSpec := { name := "matchTurned", fn := fun _ => fun
  | [d1, d2, d3] => { results := [.lit (.bool true)], args := [d1, d2, d3] }
  | _ => none }
def matchTurnedRow : OpenClaim := { program := "ytmnmgbbdjpfonaadoor", sum := "3db98c801aaa26fd656625bf4d6096d462576a5e0d3d7ca2c805aa152ebbf0eb", func := "flotsam/flotsamlaw08.MatchTurned", spec := "matchTurned", unfollowed := true, recurses := true, named := ["unicode/utf8.first", "unicode/utf8.acceptRanges"], loops := true, apart := false, laid := [("unicode/utf8.acceptRanges", laid_unicode_utf8_acceptRanges), ("unicode/utf8.first", laid_unicode_utf8_first)] }
def MatchTurnedSaid : Prop := matchTurnedRow.holds Tryd.pinned (OpenSpec.ofChange matchTurnedSpec)

/-- ITS FALSE NEIGHBOUR: 'it returns false'. Refute it at one input. -/
def matchTurnedWrong : ChangeSpec := { name := "matchTurned", fn := fun _ => fun
  | [d1, d2, d3] => { results := [.lit (.bool false)], args := [d1, d2, d3] }
  | _ => none }
def MatchTurnedWrongFalsely : Prop := matchTurnedRow.holds Tryd.pinned (OpenSpec.ofChange matchTurnedWrong)

/-- 'flotsamlaw08.MatchAll': WHATEVER THE INPUT: true; the input reads as it did. -/
def matchAllSpec : ChangeSpec := { name := "matchAll", fn := fun _ => fun
  | [d1, d2] => { results := [.lit (.bool true)], args := [d1, d2] }
  | _ => none }
def matchAllRow : OpenClaim := { program := "ytmnmgbbdjpfonaadoor", sum := "3db98c801aaa26fd656625bf4d6096d462576a5e0d3d7ca2c805aa152ebbf0eb", func := "flotsam/flotsamlaw08.MatchAll", spec := "matchAll", unfollowed := true, recurses := true, named := ["unicode/utf8.first", "unicode/utf8.acceptRanges"], loops := true, apart := false, laid := [("unicode/utf8.acceptRanges", laid_unicode_utf8_acceptRanges), ("unicode/utf8.first", laid_unicode_utf8_first)] }
def MatchAllSaid : Prop := matchAllRow.holds Tryd.pinned (OpenSpec.ofChange matchAllSpec)

/-- ITS FALSE NEIGHBOUR: 'it returns false'. Refute it at one input. -/
def matchAllWrong : ChangeSpec := { name := "matchAll", fn := fun _ => fun
  | [d1, d2] => { results := [.lit (.bool false)], args := [d1, d2] }
  | _ => none }
def MatchAllWrongFalsely : Prop := matchAllRow.holds Tryd.pinned (OpenSpec.ofChange matchAllWrong)

/- THE SECOND FORM. 'bulk': how many values and letters a reading holds, each counted each time it is reached (what is shared counts as often as it is met; a slice's spare places count too). A statement '..UptoSaid' is the law's where the arguments, and the package variables that the reading takes, are together of bulk at most 1048576: NARROWER than '..Said'. Prove '..Said' where nothing that the law and all that it calls make is longer than what came in: it says more and counts as full. Else prove '..UptoSaid'. A law counts once. -/
mutual
def uptoBulk {H : Type} : DataW H → Nat
  | .lit (.string bytes) => bytes.length + 1
  | .lit _ => 1
  | .nil => 1
  | .ptr d => uptoBulk d + 1
  | .slice elems spare => uptoBulkAll elems + uptoBulkAll spare + 1
  | .agg parts => uptoBulkAll parts + 1
  | .iface _ d => uptoBulk d + 1
  | .map entries => uptoBulkEntries entries + 1
  | .held _ => 1
def uptoBulkAll {H : Type} : List (DataW H) → Nat
  | [] => 0
  | d :: r => uptoBulk d + uptoBulkAll r
def uptoBulkEntries {H : Type} : List (Lit × DataW H) → Nat
  | [] => 0
  | x :: r => uptoBulkEntry x + uptoBulkEntries r
def uptoBulkEntry {H : Type} : Lit × DataW H → Nat
  | (.string bytes, d) => bytes.length + uptoBulk d + 1
  | (_, d) => uptoBulk d + 1
 end
def uptoSmall : (H : Type) → List (DataW H) → Bool := fun _ ds => decide (uptoBulkAll ds ≤ 1048576)
def OpenSpec.upto (s : _root_.Go.ChangeSpec) : _root_.Go.OpenSpec := { _root_.Go.OpenSpec.ofChange s with cond := some uptoSmall }

/-- 'flotsamlaw08.MatchOne', WHERE WHAT IT READS IS OF BULK AT MOST 1048576: true; the input reads as it did. -/
def matchOneUptoRow : OpenClaim := { program := "ytmnmgbbdjpfonaadoor", sum := "3db98c801aaa26fd656625bf4d6096d462576a5e0d3d7ca2c805aa152ebbf0eb", func := "flotsam/flotsamlaw08.MatchOne", spec := "matchOne", unfollowed := true, recurses := true, named := ["unicode/utf8.first", "unicode/utf8.acceptRanges"], loops := true, apart := false, laid := [("unicode/utf8.acceptRanges", laid_unicode_utf8_acceptRanges), ("unicode/utf8.first", laid_unicode_utf8_first)], narrowed := true }
def MatchOneUptoSaid : Prop := matchOneUptoRow.holds Tryd.pinned (OpenSpec.upto matchOneSpec)

/-- 'flotsamlaw08.MatchPicks', WHERE WHAT IT READS IS OF BULK AT MOST 1048576: true; the input reads as it did. -/
def matchPicksUptoRow : OpenClaim := { program := "ytmnmgbbdjpfonaadoor", sum := "3db98c801aaa26fd656625bf4d6096d462576a5e0d3d7ca2c805aa152ebbf0eb", func := "flotsam/flotsamlaw08.MatchPicks", spec := "matchPicks", unfollowed := true, recurses := true, named := ["unicode/utf8.first", "unicode/utf8.acceptRanges"], loops := true, apart := false, laid := [("unicode/utf8.acceptRanges", laid_unicode_utf8_acceptRanges), ("unicode/utf8.first", laid_unicode_utf8_first)], narrowed := true }
def MatchPicksUptoSaid : Prop := matchPicksUptoRow.holds Tryd.pinned (OpenSpec.upto matchPicksSpec)

/-- 'flotsamlaw08.MatchLaws', WHERE WHAT IT READS IS OF BULK AT MOST 1048576: true; the input reads as it did. -/
def matchLawsUptoRow : OpenClaim := { program := "ytmnmgbbdjpfonaadoor", sum := "3db98c801aaa26fd656625bf4d6096d462576a5e0d3d7ca2c805aa152ebbf0eb", func := "flotsam/flotsamlaw08.MatchLaws", spec := "matchLaws", unfollowed := true, recurses := true, named := ["unicode/utf8.first", "unicode/utf8.acceptRanges"], loops := true, apart := false, laid := [("unicode/utf8.acceptRanges", laid_unicode_utf8_acceptRanges), ("unicode/utf8.first", laid_unicode_utf8_first)], narrowed := true }
def MatchLawsUptoSaid : Prop := matchLawsUptoRow.holds Tryd.pinned (OpenSpec.upto matchLawsSpec)

/-- 'flotsamlaw08.MatchHeaders', WHERE WHAT IT READS IS OF BULK AT MOST 1048576: true; the input reads as it did. -/
def matchHeadersUptoRow : OpenClaim := { program := "ytmnmgbbdjpfonaadoor", sum := "3db98c801aaa26fd656625bf4d6096d462576a5e0d3d7ca2c805aa152ebbf0eb", func := "flotsam/flotsamlaw08.MatchHeaders", spec := "matchHeaders", unfollowed := true, recurses := true, named := ["unicode/utf8.first", "unicode/utf8.acceptRanges"], apart := false, laid := [("unicode/utf8.acceptRanges", laid_unicode_utf8_acceptRanges), ("unicode/utf8.first", laid_unicode_utf8_first)], narrowed := true }
def MatchHeadersUptoSaid : Prop := matchHeadersUptoRow.holds Tryd.pinned (OpenSpec.upto matchHeadersSpec)

/-- 'flotsamlaw08.MatchTurned', WHERE WHAT IT READS IS OF BULK AT MOST 1048576: true; the input reads as it did. -/
def matchTurnedUptoRow : OpenClaim := { program := "ytmnmgbbdjpfonaadoor", sum := "3db98c801aaa26fd656625bf4d6096d462576a5e0d3d7ca2c805aa152ebbf0eb", func := "flotsam/flotsamlaw08.MatchTurned", spec := "matchTurned", unfollowed := true, recurses := true, named := ["unicode/utf8.first", "unicode/utf8.acceptRanges"], loops := true, apart := false, laid := [("unicode/utf8.acceptRanges", laid_unicode_utf8_acceptRanges), ("unicode/utf8.first", laid_unicode_utf8_first)], narrowed := true }
def MatchTurnedUptoSaid : Prop := matchTurnedUptoRow.holds Tryd.pinned (OpenSpec.upto matchTurnedSpec)

/-- 'flotsamlaw08.MatchAll', WHERE WHAT IT READS IS OF BULK AT MOST 1048576: true; the input reads as it did. -/
def matchAllUptoRow : OpenClaim := { program := "ytmnmgbbdjpfonaadoor", sum := "3db98c801aaa26fd656625bf4d6096d462576a5e0d3d7ca2c805aa152ebbf0eb", func := "flotsam/flotsamlaw08.MatchAll", spec := "matchAll", unfollowed := true, recurses := true, named := ["unicode/utf8.first", "unicode/utf8.acceptRanges"], loops := true, apart := false, laid := [("unicode/utf8.acceptRanges", laid_unicode_utf8_acceptRanges), ("unicode/utf8.first", laid_unicode_utf8_first)], narrowed := true }
def MatchAllUptoSaid : Prop := matchAllUptoRow.holds Tryd.pinned (OpenSpec.upto matchAllSpec)

end Rows
end Go.Proofs.YtmnmgbbdjpfonaaDoor
