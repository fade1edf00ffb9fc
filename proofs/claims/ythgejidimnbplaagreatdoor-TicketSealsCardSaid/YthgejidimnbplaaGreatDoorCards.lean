/-
  DERIVED. GIVEN WITH THE SEED: THE CARDS: each row of YthgejidimnbplaaGreatDoorRows.lean that lists a variable, with what it lists TIED to the program's text (the seventh form; the later family's looks); each row that meets fmt, with fmt's text TOLD by the authors' own Lean function (tested against real Go, not proved from fmt's source: count such statements apart). THE CARD IS WHAT COUNTS. Prove the row's statement (the work); the ties are given (YthgejidimnbplaaGreatDoorTie.lean); close each card by the builder's one call (the guide's Derived/Test/ToyasCard.lean, 'card_holds'). Laid BY PROGRAM, IN A SANDBOX (cutbox-door.mjs). By AI agents, Wed Nov 11 2026. No macro, syntax, notation, axiom, sorry.
-/
import Derived.Test.YthgejidimnbplaaGreatDoorRows
import GoSem.ClaimSeven
namespace Go.Proofs.YthgejidimnbplaaGreatDoor
namespace Rows

/-- THE TIED CARD OF 'gangwaylaw07.TicketSeals'. -/
def ticketSealsCard : Claim7 := { stood := { row := ticketSealsRow, standIns := [], harness := (true, "d24e34b2c0333526280f33949dfc068c3bdf74cb7cd5db25dbca4ffae56e45a9"), looks := false }, kinds := [], alts := [], laidByText := true, laidKinds := [.data, .data, .pinned], laidTests := true, laidLooks := .later }
def TicketSealsCardSaid : Prop := Claim7.holds Tryz.pinned (.plain (OpenSpec.ofChange ticketSealsSpec)) ticketSealsCard

/-- THE SECOND FORM's CARD OF 'gangwaylaw07.TicketSeals'. -/
def ticketSealsUptoCard : Claim7 := { stood := { row := ticketSealsUptoRow, standIns := [], harness := (true, "d24e34b2c0333526280f33949dfc068c3bdf74cb7cd5db25dbca4ffae56e45a9"), looks := false }, kinds := [], alts := [], laidByText := true, laidKinds := [.data, .data, .pinned], laidTests := true, laidLooks := .later }
def TicketSealsUptoCardSaid : Prop := Claim7.holds Tryz.pinned (.plain (OpenSpec.upto ticketSealsSpec)) ticketSealsUptoCard
end Rows
end Go.Proofs.YthgejidimnbplaaGreatDoor
