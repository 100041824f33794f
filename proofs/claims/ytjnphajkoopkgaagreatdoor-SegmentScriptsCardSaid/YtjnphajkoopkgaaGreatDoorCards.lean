/-
  DERIVED. GIVEN WITH THE SEED: THE CARDS: each row of YtjnphajkoopkgaaGreatDoorRows.lean that lists a variable, with what it lists TIED to the program's text (the seventh form; the later family's looks); each row that meets fmt, with fmt's text TOLD by the authors' own Lean function (tested against real Go, not proved from fmt's source: count such statements apart). THE CARD IS WHAT COUNTS. Prove the row's statement (the work); the ties are given (YtjnphajkoopkgaaGreatDoorTie.lean); close each card by the builder's one call (the guide's Derived/Test/ToyasCard.lean, 'card_holds'). Laid BY PROGRAM, IN A SANDBOX (cutbox-door.mjs). By AI agents, Wed Nov 11 2026. No macro, syntax, notation, axiom, sorry.
-/
import Derived.Test.YtjnphajkoopkgaaGreatDoorRows
import GoSem.ClaimSeven
namespace Go.Proofs.YtjnphajkoopkgaaGreatDoor
namespace Rows

/-- THE TIED CARD OF 'flotsamlaw10.SegmentScripts'. -/
def segmentScriptsCard : Claim7 := { stood := { row := segmentScriptsRow, standIns := [], harness := (true, "a3afc9584e3976c1e84101344f39e466058fdae0d6248a22823ad4fd74a77347"), looks := false }, kinds := [], alts := [], laidByText := true, laidKinds := [.data], laidTests := true, laidLooks := .later }
def SegmentScriptsCardSaid : Prop := Claim7.holds Tryz.pinned (.plain (OpenSpec.ofChange segmentScriptsSpec)) segmentScriptsCard

/-- THE TIED CARD OF 'flotsamlaw10.SegmentNil'. -/
def segmentNilCard : Claim7 := { stood := { row := segmentNilRow, standIns := [], harness := (true, "a3afc9584e3976c1e84101344f39e466058fdae0d6248a22823ad4fd74a77347"), looks := false }, kinds := [], alts := [], laidByText := true, laidKinds := [.data], laidTests := true, laidLooks := .later }
def SegmentNilCardSaid : Prop := Claim7.holds Tryz.pinned (.plain (OpenSpec.ofChange segmentNilSpec)) segmentNilCard

/-- THE TIED CARD OF 'flotsamlaw10.SegmentSafe'. -/
def segmentSafeCard : Claim7 := { stood := { row := segmentSafeRow, standIns := [], harness := (true, "a3afc9584e3976c1e84101344f39e466058fdae0d6248a22823ad4fd74a77347"), looks := false }, kinds := [], alts := [], laidByText := true, laidKinds := [.data], laidTests := true, laidLooks := .later }
def SegmentSafeCardSaid : Prop := Claim7.holds Tryz.pinned (.plain (OpenSpec.ofChange segmentSafeSpec)) segmentSafeCard

/-- THE TIED CARD OF 'flotsamlaw10.SegmentAgain'. -/
def segmentAgainCard : Claim7 := { stood := { row := segmentAgainRow, standIns := [], harness := (true, "a3afc9584e3976c1e84101344f39e466058fdae0d6248a22823ad4fd74a77347"), looks := false }, kinds := [], alts := [], laidByText := true, laidKinds := [.data], laidTests := true, laidLooks := .later }
def SegmentAgainCardSaid : Prop := Claim7.holds Tryz.pinned (.plain (OpenSpec.ofChange segmentAgainSpec)) segmentAgainCard

/-- THE SECOND FORM's CARD OF 'flotsamlaw10.SegmentScripts'. -/
def segmentScriptsUptoCard : Claim7 := { stood := { row := segmentScriptsUptoRow, standIns := [], harness := (true, "a3afc9584e3976c1e84101344f39e466058fdae0d6248a22823ad4fd74a77347"), looks := false }, kinds := [], alts := [], laidByText := true, laidKinds := [.data], laidTests := true, laidLooks := .later }
def SegmentScriptsUptoCardSaid : Prop := Claim7.holds Tryz.pinned (.plain (OpenSpec.upto segmentScriptsSpec)) segmentScriptsUptoCard

/-- THE SECOND FORM's CARD OF 'flotsamlaw10.SegmentNil'. -/
def segmentNilUptoCard : Claim7 := { stood := { row := segmentNilUptoRow, standIns := [], harness := (true, "a3afc9584e3976c1e84101344f39e466058fdae0d6248a22823ad4fd74a77347"), looks := false }, kinds := [], alts := [], laidByText := true, laidKinds := [.data], laidTests := true, laidLooks := .later }
def SegmentNilUptoCardSaid : Prop := Claim7.holds Tryz.pinned (.plain (OpenSpec.upto segmentNilSpec)) segmentNilUptoCard

/-- THE SECOND FORM's CARD OF 'flotsamlaw10.SegmentSafe'. -/
def segmentSafeUptoCard : Claim7 := { stood := { row := segmentSafeUptoRow, standIns := [], harness := (true, "a3afc9584e3976c1e84101344f39e466058fdae0d6248a22823ad4fd74a77347"), looks := false }, kinds := [], alts := [], laidByText := true, laidKinds := [.data], laidTests := true, laidLooks := .later }
def SegmentSafeUptoCardSaid : Prop := Claim7.holds Tryz.pinned (.plain (OpenSpec.upto segmentSafeSpec)) segmentSafeUptoCard

/-- THE SECOND FORM's CARD OF 'flotsamlaw10.SegmentAgain'. -/
def segmentAgainUptoCard : Claim7 := { stood := { row := segmentAgainUptoRow, standIns := [], harness := (true, "a3afc9584e3976c1e84101344f39e466058fdae0d6248a22823ad4fd74a77347"), looks := false }, kinds := [], alts := [], laidByText := true, laidKinds := [.data], laidTests := true, laidLooks := .later }
def SegmentAgainUptoCardSaid : Prop := Claim7.holds Tryz.pinned (.plain (OpenSpec.upto segmentAgainSpec)) segmentAgainUptoCard
end Rows
end Go.Proofs.YtjnphajkoopkgaaGreatDoor
