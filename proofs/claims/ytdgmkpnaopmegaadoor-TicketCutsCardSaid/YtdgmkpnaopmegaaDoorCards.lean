/-
  DERIVED. GIVEN WITH THE SEED: THE CARDS: each row of YtdgmkpnaopmegaaDoorRows.lean that lists a variable, with what it lists TIED to the program's text (the seventh form; the later family's looks); each row that meets fmt, with fmt's text TOLD by the authors' own Lean function (tested against real Go, not proved from fmt's source: count such statements apart). THE CARD IS WHAT COUNTS. Prove the row's statement (the work); the ties are given (YtdgmkpnaopmegaaDoorTie.lean); close each card by the builder's one call (the guide's Derived/Test/ToyasCard.lean, 'card_holds'). Laid BY PROGRAM, IN A SANDBOX (cutbox-door.mjs). By AI agents, Wed Nov 11 2026. No macro, syntax, notation, axiom, sorry.
-/
import Derived.Test.YtdgmkpnaopmegaaDoorRows
import GoSem.ClaimSeven
namespace Go.Proofs.YtdgmkpnaopmegaaDoor
namespace Rows

/-- THE TIED CARD OF 'gangwaylaw07.TicketWrites'. -/
def ticketWritesCard : Claim7 := { stood := { row := ticketWritesRow, standIns := [], harness := (true, "bbe33233328324deef55e2c9340bef9adb7d4f039a88c56cd3bbe2ff552cac24"), looks := false }, kinds := [], alts := [], laidByText := true, laidKinds := [.data, .pinned], laidTests := true, laidLooks := .later }
def TicketWritesCardSaid : Prop := Claim7.holds Tryd.pinned (.plain (OpenSpec.ofChange ticketWritesSpec)) ticketWritesCard

/-- THE TIED CARD OF 'gangwaylaw07.TicketAuths'. -/
def ticketAuthsCard : Claim7 := { stood := { row := ticketAuthsRow, standIns := [], harness := (true, "bbe33233328324deef55e2c9340bef9adb7d4f039a88c56cd3bbe2ff552cac24"), looks := false }, kinds := [], alts := [], laidByText := true, laidKinds := [.data, .pinned], laidTests := true, laidLooks := .later }
def TicketAuthsCardSaid : Prop := Claim7.holds Tryd.pinned (.plain (OpenSpec.ofChange ticketAuthsSpec)) ticketAuthsCard

/-- THE TIED CARD OF 'gangwaylaw07.TicketGrants'. -/
def ticketGrantsCard : Claim7 := { stood := { row := ticketGrantsRow, standIns := [], harness := (true, "bbe33233328324deef55e2c9340bef9adb7d4f039a88c56cd3bbe2ff552cac24"), looks := false }, kinds := [], alts := [], laidByText := true, laidKinds := [.data, .pinned], laidTests := true, laidLooks := .later }
def TicketGrantsCardSaid : Prop := Claim7.holds Tryd.pinned (.plain (OpenSpec.ofChange ticketGrantsSpec)) ticketGrantsCard

/-- THE TIED CARD OF 'gangwaylaw07.TicketValid'. -/
def ticketValidCard : Claim7 := { stood := { row := ticketValidRow, standIns := [], harness := (true, "bbe33233328324deef55e2c9340bef9adb7d4f039a88c56cd3bbe2ff552cac24"), looks := false }, kinds := [], alts := [], laidByText := true, laidKinds := [.data, .pinned], laidTests := true, laidLooks := .later }
def TicketValidCardSaid : Prop := Claim7.holds Tryd.pinned (.plain (OpenSpec.ofChange ticketValidSpec)) ticketValidCard

/-- THE TIED CARD OF 'gangwaylaw07.TicketKinds'. -/
def ticketKindsCard : Claim7 := { stood := { row := ticketKindsRow, standIns := [], harness := (true, "bbe33233328324deef55e2c9340bef9adb7d4f039a88c56cd3bbe2ff552cac24"), looks := false }, kinds := [], alts := [], laidByText := true, laidKinds := [.data, .pinned], laidTests := true, laidLooks := .later }
def TicketKindsCardSaid : Prop := Claim7.holds Tryd.pinned (.plain (OpenSpec.ofChange ticketKindsSpec)) ticketKindsCard

/-- THE TIED CARD OF 'gangwaylaw07.TicketCuts'. -/
def ticketCutsCard : Claim7 := { stood := { row := ticketCutsRow, standIns := [], harness := (true, "bbe33233328324deef55e2c9340bef9adb7d4f039a88c56cd3bbe2ff552cac24"), looks := false }, kinds := [], alts := [], laidByText := true, laidKinds := [.data, .pinned], laidTests := true, laidLooks := .later }
def TicketCutsCardSaid : Prop := Claim7.holds Tryd.pinned (.plain (OpenSpec.ofChange ticketCutsSpec)) ticketCutsCard

/-- THE TIED CARD OF 'gangwaylaw07.TicketLasts'. -/
def ticketLastsCard : Claim7 := { stood := { row := ticketLastsRow, standIns := [], harness := (true, "bbe33233328324deef55e2c9340bef9adb7d4f039a88c56cd3bbe2ff552cac24"), looks := false }, kinds := [], alts := [], laidByText := true, laidKinds := [.data, .pinned], laidTests := true, laidLooks := .later }
def TicketLastsCardSaid : Prop := Claim7.holds Tryd.pinned (.plain (OpenSpec.ofChange ticketLastsSpec)) ticketLastsCard

/-- THE SECOND FORM's CARD OF 'gangwaylaw07.TicketWrites'. -/
def ticketWritesUptoCard : Claim7 := { stood := { row := ticketWritesUptoRow, standIns := [], harness := (true, "bbe33233328324deef55e2c9340bef9adb7d4f039a88c56cd3bbe2ff552cac24"), looks := false }, kinds := [], alts := [], laidByText := true, laidKinds := [.data, .pinned], laidTests := true, laidLooks := .later }
def TicketWritesUptoCardSaid : Prop := Claim7.holds Tryd.pinned (.plain (OpenSpec.upto ticketWritesSpec)) ticketWritesUptoCard

/-- THE SECOND FORM's CARD OF 'gangwaylaw07.TicketAuths'. -/
def ticketAuthsUptoCard : Claim7 := { stood := { row := ticketAuthsUptoRow, standIns := [], harness := (true, "bbe33233328324deef55e2c9340bef9adb7d4f039a88c56cd3bbe2ff552cac24"), looks := false }, kinds := [], alts := [], laidByText := true, laidKinds := [.data, .pinned], laidTests := true, laidLooks := .later }
def TicketAuthsUptoCardSaid : Prop := Claim7.holds Tryd.pinned (.plain (OpenSpec.upto ticketAuthsSpec)) ticketAuthsUptoCard

/-- THE SECOND FORM's CARD OF 'gangwaylaw07.TicketGrants'. -/
def ticketGrantsUptoCard : Claim7 := { stood := { row := ticketGrantsUptoRow, standIns := [], harness := (true, "bbe33233328324deef55e2c9340bef9adb7d4f039a88c56cd3bbe2ff552cac24"), looks := false }, kinds := [], alts := [], laidByText := true, laidKinds := [.data, .pinned], laidTests := true, laidLooks := .later }
def TicketGrantsUptoCardSaid : Prop := Claim7.holds Tryd.pinned (.plain (OpenSpec.upto ticketGrantsSpec)) ticketGrantsUptoCard

/-- THE SECOND FORM's CARD OF 'gangwaylaw07.TicketValid'. -/
def ticketValidUptoCard : Claim7 := { stood := { row := ticketValidUptoRow, standIns := [], harness := (true, "bbe33233328324deef55e2c9340bef9adb7d4f039a88c56cd3bbe2ff552cac24"), looks := false }, kinds := [], alts := [], laidByText := true, laidKinds := [.data, .pinned], laidTests := true, laidLooks := .later }
def TicketValidUptoCardSaid : Prop := Claim7.holds Tryd.pinned (.plain (OpenSpec.upto ticketValidSpec)) ticketValidUptoCard

/-- THE SECOND FORM's CARD OF 'gangwaylaw07.TicketKinds'. -/
def ticketKindsUptoCard : Claim7 := { stood := { row := ticketKindsUptoRow, standIns := [], harness := (true, "bbe33233328324deef55e2c9340bef9adb7d4f039a88c56cd3bbe2ff552cac24"), looks := false }, kinds := [], alts := [], laidByText := true, laidKinds := [.data, .pinned], laidTests := true, laidLooks := .later }
def TicketKindsUptoCardSaid : Prop := Claim7.holds Tryd.pinned (.plain (OpenSpec.upto ticketKindsSpec)) ticketKindsUptoCard

/-- THE SECOND FORM's CARD OF 'gangwaylaw07.TicketCuts'. -/
def ticketCutsUptoCard : Claim7 := { stood := { row := ticketCutsUptoRow, standIns := [], harness := (true, "bbe33233328324deef55e2c9340bef9adb7d4f039a88c56cd3bbe2ff552cac24"), looks := false }, kinds := [], alts := [], laidByText := true, laidKinds := [.data, .pinned], laidTests := true, laidLooks := .later }
def TicketCutsUptoCardSaid : Prop := Claim7.holds Tryd.pinned (.plain (OpenSpec.upto ticketCutsSpec)) ticketCutsUptoCard

/-- THE SECOND FORM's CARD OF 'gangwaylaw07.TicketLasts'. -/
def ticketLastsUptoCard : Claim7 := { stood := { row := ticketLastsUptoRow, standIns := [], harness := (true, "bbe33233328324deef55e2c9340bef9adb7d4f039a88c56cd3bbe2ff552cac24"), looks := false }, kinds := [], alts := [], laidByText := true, laidKinds := [.data, .pinned], laidTests := true, laidLooks := .later }
def TicketLastsUptoCardSaid : Prop := Claim7.holds Tryd.pinned (.plain (OpenSpec.upto ticketLastsSpec)) ticketLastsUptoCard
end Rows
end Go.Proofs.YtdgmkpnaopmegaaDoor
