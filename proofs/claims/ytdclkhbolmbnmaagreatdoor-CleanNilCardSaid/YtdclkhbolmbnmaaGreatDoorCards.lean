/-
  DERIVED. GIVEN WITH THE SEED: THE CARDS: each row of YtdclkhbolmbnmaaGreatDoorRows.lean that lists a variable, with what it lists TIED to the program's text (the seventh form; the later family's looks); each row that meets fmt, with fmt's text TOLD by the authors' own Lean function (tested against real Go, not proved from fmt's source: count such statements apart). THE CARD IS WHAT COUNTS. Prove the row's statement (the work); the ties are given (YtdclkhbolmbnmaaGreatDoorTie.lean); close each card by the builder's one call (the guide's Derived/Test/ToyasCard.lean, 'card_holds'). Laid BY PROGRAM, IN A SANDBOX (cutbox-door.mjs). By AI agents, Wed Nov 11 2026. No macro, syntax, notation, axiom, sorry.
-/
import Derived.Test.YtdclkhbolmbnmaaGreatDoorRows
import GoSem.ClaimSeven
namespace Go.Proofs.YtdclkhbolmbnmaaGreatDoor
namespace Rows

/-- THE TIED CARD OF 'flotsamlaw12.CleanNil'. -/
def cleanNilCard : Claim7 := { stood := { row := cleanNilRow, standIns := [], harness := (true, "94595de77b031720b1653d6280d4f0ea90d77ff7894a2c1e1c1dd949d828f7fe"), looks := false }, kinds := [], alts := [], laidByText := true, laidKinds := [.data, .data, .data, .data], laidTests := true, laidLooks := .later }
def CleanNilCardSaid : Prop := Claim7.holds Tryz.pinned (.plain (OpenSpec.ofChange cleanNilSpec)) cleanNilCard

/-- THE SECOND FORM's CARD OF 'flotsamlaw12.CleanNil'. -/
def cleanNilUptoCard : Claim7 := { stood := { row := cleanNilUptoRow, standIns := [], harness := (true, "94595de77b031720b1653d6280d4f0ea90d77ff7894a2c1e1c1dd949d828f7fe"), looks := false }, kinds := [], alts := [], laidByText := true, laidKinds := [.data, .data, .data, .data], laidTests := true, laidLooks := .later }
def CleanNilUptoCardSaid : Prop := Claim7.holds Tryz.pinned (.plain (OpenSpec.upto cleanNilSpec)) cleanNilUptoCard
end Rows
end Go.Proofs.YtdclkhbolmbnmaaGreatDoor
