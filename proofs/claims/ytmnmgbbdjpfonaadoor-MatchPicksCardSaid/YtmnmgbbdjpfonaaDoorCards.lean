/-
  DERIVED. GIVEN WITH THE SEED: THE CARDS: each row of YtmnmgbbdjpfonaaDoorRows.lean that lists a variable, with what it lists TIED to the program's text (the seventh form; the later family's looks); each row that meets fmt, with fmt's text TOLD by the authors' own Lean function (tested against real Go, not proved from fmt's source: count such statements apart). THE CARD IS WHAT COUNTS. Prove the row's statement (the work); the ties are given (YtmnmgbbdjpfonaaDoorTie.lean); close each card by the builder's one call (the guide's Derived/Test/ToyasCard.lean, 'card_holds'). Laid BY PROGRAM, IN A SANDBOX (cutbox-door.mjs). By AI agents, Wed Nov 11 2026. No macro, syntax, notation, axiom, sorry.
-/
import Derived.Test.YtmnmgbbdjpfonaaDoorRows
import GoSem.ClaimSeven
namespace Go.Proofs.YtmnmgbbdjpfonaaDoor
namespace Rows

/-- THE TIED CARD OF 'flotsamlaw08.MatchOne'. -/
def matchOneCard : Claim7 := { stood := { row := matchOneRow, standIns := [], harness := (true, "a4147f8d4f6e7474062e7f7c263c17ceb13056af1a13951b1c5839e75b99fae0"), looks := false }, kinds := [], alts := [], laidByText := true, laidKinds := [.data, .pinned], laidTests := true, laidLooks := .later }
def MatchOneCardSaid : Prop := Claim7.holds Tryd.pinned (.plain (OpenSpec.ofChange matchOneSpec)) matchOneCard

/-- THE TIED CARD OF 'flotsamlaw08.MatchPicks'. -/
def matchPicksCard : Claim7 := { stood := { row := matchPicksRow, standIns := [], harness := (true, "a4147f8d4f6e7474062e7f7c263c17ceb13056af1a13951b1c5839e75b99fae0"), looks := false }, kinds := [], alts := [], laidByText := true, laidKinds := [.data, .pinned], laidTests := true, laidLooks := .later }
def MatchPicksCardSaid : Prop := Claim7.holds Tryd.pinned (.plain (OpenSpec.ofChange matchPicksSpec)) matchPicksCard

/-- THE TIED CARD OF 'flotsamlaw08.MatchLaws'. -/
def matchLawsCard : Claim7 := { stood := { row := matchLawsRow, standIns := [], harness := (true, "a4147f8d4f6e7474062e7f7c263c17ceb13056af1a13951b1c5839e75b99fae0"), looks := false }, kinds := [], alts := [], laidByText := true, laidKinds := [.data, .pinned], laidTests := true, laidLooks := .later }
def MatchLawsCardSaid : Prop := Claim7.holds Tryd.pinned (.plain (OpenSpec.ofChange matchLawsSpec)) matchLawsCard

/-- THE TIED CARD OF 'flotsamlaw08.MatchHeaders'. -/
def matchHeadersCard : Claim7 := { stood := { row := matchHeadersRow, standIns := [], harness := (true, "a4147f8d4f6e7474062e7f7c263c17ceb13056af1a13951b1c5839e75b99fae0"), looks := false }, kinds := [], alts := [], laidByText := true, laidKinds := [.data, .pinned], laidTests := true, laidLooks := .later }
def MatchHeadersCardSaid : Prop := Claim7.holds Tryd.pinned (.plain (OpenSpec.ofChange matchHeadersSpec)) matchHeadersCard

/-- THE TIED CARD OF 'flotsamlaw08.MatchTurned'. -/
def matchTurnedCard : Claim7 := { stood := { row := matchTurnedRow, standIns := [], harness := (true, "a4147f8d4f6e7474062e7f7c263c17ceb13056af1a13951b1c5839e75b99fae0"), looks := false }, kinds := [], alts := [], laidByText := true, laidKinds := [.data, .pinned], laidTests := true, laidLooks := .later }
def MatchTurnedCardSaid : Prop := Claim7.holds Tryd.pinned (.plain (OpenSpec.ofChange matchTurnedSpec)) matchTurnedCard

/-- THE TIED CARD OF 'flotsamlaw08.MatchAll'. -/
def matchAllCard : Claim7 := { stood := { row := matchAllRow, standIns := [], harness := (true, "a4147f8d4f6e7474062e7f7c263c17ceb13056af1a13951b1c5839e75b99fae0"), looks := false }, kinds := [], alts := [], laidByText := true, laidKinds := [.data, .pinned], laidTests := true, laidLooks := .later }
def MatchAllCardSaid : Prop := Claim7.holds Tryd.pinned (.plain (OpenSpec.ofChange matchAllSpec)) matchAllCard

/-- THE SECOND FORM's CARD OF 'flotsamlaw08.MatchOne'. -/
def matchOneUptoCard : Claim7 := { stood := { row := matchOneUptoRow, standIns := [], harness := (true, "a4147f8d4f6e7474062e7f7c263c17ceb13056af1a13951b1c5839e75b99fae0"), looks := false }, kinds := [], alts := [], laidByText := true, laidKinds := [.data, .pinned], laidTests := true, laidLooks := .later }
def MatchOneUptoCardSaid : Prop := Claim7.holds Tryd.pinned (.plain (OpenSpec.upto matchOneSpec)) matchOneUptoCard

/-- THE SECOND FORM's CARD OF 'flotsamlaw08.MatchPicks'. -/
def matchPicksUptoCard : Claim7 := { stood := { row := matchPicksUptoRow, standIns := [], harness := (true, "a4147f8d4f6e7474062e7f7c263c17ceb13056af1a13951b1c5839e75b99fae0"), looks := false }, kinds := [], alts := [], laidByText := true, laidKinds := [.data, .pinned], laidTests := true, laidLooks := .later }
def MatchPicksUptoCardSaid : Prop := Claim7.holds Tryd.pinned (.plain (OpenSpec.upto matchPicksSpec)) matchPicksUptoCard

/-- THE SECOND FORM's CARD OF 'flotsamlaw08.MatchLaws'. -/
def matchLawsUptoCard : Claim7 := { stood := { row := matchLawsUptoRow, standIns := [], harness := (true, "a4147f8d4f6e7474062e7f7c263c17ceb13056af1a13951b1c5839e75b99fae0"), looks := false }, kinds := [], alts := [], laidByText := true, laidKinds := [.data, .pinned], laidTests := true, laidLooks := .later }
def MatchLawsUptoCardSaid : Prop := Claim7.holds Tryd.pinned (.plain (OpenSpec.upto matchLawsSpec)) matchLawsUptoCard

/-- THE SECOND FORM's CARD OF 'flotsamlaw08.MatchHeaders'. -/
def matchHeadersUptoCard : Claim7 := { stood := { row := matchHeadersUptoRow, standIns := [], harness := (true, "a4147f8d4f6e7474062e7f7c263c17ceb13056af1a13951b1c5839e75b99fae0"), looks := false }, kinds := [], alts := [], laidByText := true, laidKinds := [.data, .pinned], laidTests := true, laidLooks := .later }
def MatchHeadersUptoCardSaid : Prop := Claim7.holds Tryd.pinned (.plain (OpenSpec.upto matchHeadersSpec)) matchHeadersUptoCard

/-- THE SECOND FORM's CARD OF 'flotsamlaw08.MatchTurned'. -/
def matchTurnedUptoCard : Claim7 := { stood := { row := matchTurnedUptoRow, standIns := [], harness := (true, "a4147f8d4f6e7474062e7f7c263c17ceb13056af1a13951b1c5839e75b99fae0"), looks := false }, kinds := [], alts := [], laidByText := true, laidKinds := [.data, .pinned], laidTests := true, laidLooks := .later }
def MatchTurnedUptoCardSaid : Prop := Claim7.holds Tryd.pinned (.plain (OpenSpec.upto matchTurnedSpec)) matchTurnedUptoCard

/-- THE SECOND FORM's CARD OF 'flotsamlaw08.MatchAll'. -/
def matchAllUptoCard : Claim7 := { stood := { row := matchAllUptoRow, standIns := [], harness := (true, "a4147f8d4f6e7474062e7f7c263c17ceb13056af1a13951b1c5839e75b99fae0"), looks := false }, kinds := [], alts := [], laidByText := true, laidKinds := [.data, .pinned], laidTests := true, laidLooks := .later }
def MatchAllUptoCardSaid : Prop := Claim7.holds Tryd.pinned (.plain (OpenSpec.upto matchAllSpec)) matchAllUptoCard
end Rows
end Go.Proofs.YtmnmgbbdjpfonaaDoor
