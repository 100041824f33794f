/-
  DERIVED. GIVEN WITH THE SEED: THE CARDS: each row of YtdclkhbolmbnmaaDoorRows.lean that lists a variable, with what it lists TIED to the program's text (the seventh form; the later family's looks); each row that meets fmt, with fmt's text TOLD by the authors' own Lean function (tested against real Go, not proved from fmt's source: count such statements apart). THE CARD IS WHAT COUNTS. Prove the row's statement (the work); the ties are given (YtdclkhbolmbnmaaDoorTie.lean); close each card by the builder's one call (the guide's Derived/Test/ToyasCard.lean, 'card_holds'). Laid BY PROGRAM, IN A SANDBOX (cutbox-door.mjs). By AI agents, Wed Nov 11 2026. No macro, syntax, notation, axiom, sorry.
-/
import Derived.Test.YtdclkhbolmbnmaaDoorRows
import GoSem.ClaimSeven
namespace Go.Proofs.YtdclkhbolmbnmaaDoor
namespace Rows

/-- THE TIED CARD OF 'flotsamlaw12.CleanOne'. -/
def cleanOneCard : Claim7 := { stood := { row := cleanOneRow, standIns := [], harness := (true, "34b798f6372827b02e7d28c1f772781bb4ef11b4eed88c2d7921f2be671e6855"), looks := false }, kinds := [], alts := [], laidByText := true, laidKinds := [.data], laidTests := true, laidLooks := .later }
def CleanOneCardSaid : Prop := Claim7.holds Tryd.pinned (.plain (OpenSpec.ofChange cleanOneSpec)) cleanOneCard

/-- THE TIED CARD OF 'flotsamlaw12.CleanKeeps'. -/
def cleanKeepsCard : Claim7 := { stood := { row := cleanKeepsRow, standIns := [], harness := (true, "34b798f6372827b02e7d28c1f772781bb4ef11b4eed88c2d7921f2be671e6855"), looks := false }, kinds := [], alts := [], laidByText := true, laidKinds := [.data], laidTests := true, laidLooks := .later }
def CleanKeepsCardSaid : Prop := Claim7.holds Tryd.pinned (.plain (OpenSpec.ofChange cleanKeepsSpec)) cleanKeepsCard

/-- THE TIED CARD OF 'flotsamlaw12.CleanBare'. -/
def cleanBareCard : Claim7 := { stood := { row := cleanBareRow, standIns := [], harness := (true, "34b798f6372827b02e7d28c1f772781bb4ef11b4eed88c2d7921f2be671e6855"), looks := false }, kinds := [], alts := [], laidByText := true, laidKinds := [.data], laidTests := true, laidLooks := .later }
def CleanBareCardSaid : Prop := Claim7.holds Tryd.pinned (.plain (OpenSpec.ofChange cleanBareSpec)) cleanBareCard

/-- THE SECOND FORM's CARD OF 'flotsamlaw12.CleanOne'. -/
def cleanOneUptoCard : Claim7 := { stood := { row := cleanOneUptoRow, standIns := [], harness := (true, "34b798f6372827b02e7d28c1f772781bb4ef11b4eed88c2d7921f2be671e6855"), looks := false }, kinds := [], alts := [], laidByText := true, laidKinds := [.data], laidTests := true, laidLooks := .later }
def CleanOneUptoCardSaid : Prop := Claim7.holds Tryd.pinned (.plain (OpenSpec.upto cleanOneSpec)) cleanOneUptoCard

/-- THE SECOND FORM's CARD OF 'flotsamlaw12.CleanKeeps'. -/
def cleanKeepsUptoCard : Claim7 := { stood := { row := cleanKeepsUptoRow, standIns := [], harness := (true, "34b798f6372827b02e7d28c1f772781bb4ef11b4eed88c2d7921f2be671e6855"), looks := false }, kinds := [], alts := [], laidByText := true, laidKinds := [.data], laidTests := true, laidLooks := .later }
def CleanKeepsUptoCardSaid : Prop := Claim7.holds Tryd.pinned (.plain (OpenSpec.upto cleanKeepsSpec)) cleanKeepsUptoCard

/-- THE SECOND FORM's CARD OF 'flotsamlaw12.CleanBare'. -/
def cleanBareUptoCard : Claim7 := { stood := { row := cleanBareUptoRow, standIns := [], harness := (true, "34b798f6372827b02e7d28c1f772781bb4ef11b4eed88c2d7921f2be671e6855"), looks := false }, kinds := [], alts := [], laidByText := true, laidKinds := [.data], laidTests := true, laidLooks := .later }
def CleanBareUptoCardSaid : Prop := Claim7.holds Tryd.pinned (.plain (OpenSpec.upto cleanBareSpec)) cleanBareUptoCard
end Rows
end Go.Proofs.YtdclkhbolmbnmaaDoor
