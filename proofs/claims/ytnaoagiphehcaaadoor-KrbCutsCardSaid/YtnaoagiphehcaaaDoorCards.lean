/-
  DERIVED. GIVEN WITH THE SEED: THE CARDS: each row of YtnaoagiphehcaaaDoorRows.lean that lists a variable, with what it lists TIED to the program's text (the seventh form; the later family's looks); each row that meets fmt, with fmt's text TOLD by the authors' own Lean function (tested against real Go, not proved from fmt's source: count such statements apart). THE CARD IS WHAT COUNTS. Prove the row's statement (the work); the ties are given (YtnaoagiphehcaaaDoorTie.lean); close each card by the builder's one call (the guide's Derived/Test/ToyasCard.lean, 'card_holds'). Laid BY PROGRAM, IN A SANDBOX (cutbox-door.mjs). By AI agents, Wed Nov 11 2026. No macro, syntax, notation, axiom, sorry.
-/
import Derived.Test.YtnaoagiphehcaaaDoorRows
import GoSem.ClaimSeven
namespace Go.Proofs.YtnaoagiphehcaaaDoor
namespace Rows

/-- THE TIED CARD OF 'gangwaylaw07.TicketWrites'. -/
def ticketWritesCard : Claim7 := { stood := { row := ticketWritesRow, standIns := [], harness := (true, "0c3f58e269dd1d19497f6cbbae84fc987d3d2ff6b9b63c8ce7df90213f55e66f"), looks := false }, kinds := [], alts := [], laidByText := true, laidKinds := [.data, .pinned], laidTests := true, laidLooks := .later }
def TicketWritesCardSaid : Prop := Claim7.holds Tryd.pinned (.plain (OpenSpec.ofChange ticketWritesSpec)) ticketWritesCard

/-- THE TIED CARD OF 'gangwaylaw07.TicketAuths'. -/
def ticketAuthsCard : Claim7 := { stood := { row := ticketAuthsRow, standIns := [], harness := (true, "0c3f58e269dd1d19497f6cbbae84fc987d3d2ff6b9b63c8ce7df90213f55e66f"), looks := false }, kinds := [], alts := [], laidByText := true, laidKinds := [.data, .pinned], laidTests := true, laidLooks := .later }
def TicketAuthsCardSaid : Prop := Claim7.holds Tryd.pinned (.plain (OpenSpec.ofChange ticketAuthsSpec)) ticketAuthsCard

/-- THE TIED CARD OF 'gangwaylaw07.TicketGrants'. -/
def ticketGrantsCard : Claim7 := { stood := { row := ticketGrantsRow, standIns := [], harness := (true, "0c3f58e269dd1d19497f6cbbae84fc987d3d2ff6b9b63c8ce7df90213f55e66f"), looks := false }, kinds := [], alts := [], laidByText := true, laidKinds := [.data, .pinned], laidTests := true, laidLooks := .later }
def TicketGrantsCardSaid : Prop := Claim7.holds Tryd.pinned (.plain (OpenSpec.ofChange ticketGrantsSpec)) ticketGrantsCard

/-- THE TIED CARD OF 'gangwaylaw08.KrbNames'. -/
def krbNamesCard : Claim7 := { stood := { row := krbNamesRow, standIns := [], harness := (true, "0c3f58e269dd1d19497f6cbbae84fc987d3d2ff6b9b63c8ce7df90213f55e66f"), looks := false }, kinds := [], alts := [], laidByText := true, laidKinds := [.data, .pinned], laidTests := true, laidLooks := .later }
def KrbNamesCardSaid : Prop := Claim7.holds Tryd.pinned (.plain (OpenSpec.ofChange krbNamesSpec)) krbNamesCard

/-- THE TIED CARD OF 'gangwaylaw08.KrbWrites'. -/
def krbWritesCard : Claim7 := { stood := { row := krbWritesRow, standIns := [], harness := (true, "0c3f58e269dd1d19497f6cbbae84fc987d3d2ff6b9b63c8ce7df90213f55e66f"), looks := false }, kinds := [], alts := [], laidByText := true, laidKinds := [.data, .pinned], laidTests := true, laidLooks := .later }
def KrbWritesCardSaid : Prop := Claim7.holds Tryd.pinned (.plain (OpenSpec.ofChange krbWritesSpec)) krbWritesCard

/-- THE TIED CARD OF 'gangwaylaw08.KrbReads'. -/
def krbReadsCard : Claim7 := { stood := { row := krbReadsRow, standIns := [], harness := (true, "0c3f58e269dd1d19497f6cbbae84fc987d3d2ff6b9b63c8ce7df90213f55e66f"), looks := false }, kinds := [], alts := [], laidByText := true, laidKinds := [.data, .pinned], laidTests := true, laidLooks := .later }
def KrbReadsCardSaid : Prop := Claim7.holds Tryd.pinned (.plain (OpenSpec.ofChange krbReadsSpec)) krbReadsCard

/-- THE TIED CARD OF 'gangwaylaw08.KrbApart'. -/
def krbApartCard : Claim7 := { stood := { row := krbApartRow, standIns := [], harness := (true, "0c3f58e269dd1d19497f6cbbae84fc987d3d2ff6b9b63c8ce7df90213f55e66f"), looks := false }, kinds := [], alts := [], laidByText := true, laidKinds := [.data, .pinned], laidTests := true, laidLooks := .later }
def KrbApartCardSaid : Prop := Claim7.holds Tryd.pinned (.plain (OpenSpec.ofChange krbApartSpec)) krbApartCard

/-- THE TIED CARD OF 'gangwaylaw08.KrbCuts'. -/
def krbCutsCard : Claim7 := { stood := { row := krbCutsRow, standIns := [], harness := (true, "0c3f58e269dd1d19497f6cbbae84fc987d3d2ff6b9b63c8ce7df90213f55e66f"), looks := false }, kinds := [], alts := [], laidByText := true, laidKinds := [.data, .pinned], laidTests := true, laidLooks := .later }
def KrbCutsCardSaid : Prop := Claim7.holds Tryd.pinned (.plain (OpenSpec.ofChange krbCutsSpec)) krbCutsCard

/-- THE TIED CARD OF 'gangwaylaw08.KrbBare'. -/
def krbBareCard : Claim7 := { stood := { row := krbBareRow, standIns := [], harness := (true, "0c3f58e269dd1d19497f6cbbae84fc987d3d2ff6b9b63c8ce7df90213f55e66f"), looks := false }, kinds := [], alts := [], laidByText := true, laidKinds := [.data, .pinned], laidTests := true, laidLooks := .later }
def KrbBareCardSaid : Prop := Claim7.holds Tryd.pinned (.plain (OpenSpec.ofChange krbBareSpec)) krbBareCard

/-- THE TIED CARD OF 'gangwaylaw09.BasePlays'. -/
def basePlaysCard : Claim7 := { stood := { row := basePlaysRow, standIns := [], harness := (true, "0c3f58e269dd1d19497f6cbbae84fc987d3d2ff6b9b63c8ce7df90213f55e66f"), looks := false }, kinds := [], alts := [], laidByText := true, laidKinds := [.data, .pinned], laidTests := true, laidLooks := .later }
def BasePlaysCardSaid : Prop := Claim7.holds Tryd.pinned (.plain (OpenSpec.ofChange basePlaysSpec)) basePlaysCard

/-- THE TIED CARD OF 'gangwaylaw09.BaseLast'. -/
def baseLastCard : Claim7 := { stood := { row := baseLastRow, standIns := [], harness := (true, "0c3f58e269dd1d19497f6cbbae84fc987d3d2ff6b9b63c8ce7df90213f55e66f"), looks := false }, kinds := [], alts := [], laidByText := true, laidKinds := [.data, .pinned], laidTests := true, laidLooks := .later }
def BaseLastCardSaid : Prop := Claim7.holds Tryd.pinned (.plain (OpenSpec.ofChange baseLastSpec)) baseLastCard

/-- THE TIED CARD OF 'gangwaylaw09.BaseFull'. -/
def baseFullCard : Claim7 := { stood := { row := baseFullRow, standIns := [], harness := (true, "0c3f58e269dd1d19497f6cbbae84fc987d3d2ff6b9b63c8ce7df90213f55e66f"), looks := false }, kinds := [], alts := [], laidByText := true, laidKinds := [.data, .pinned], laidTests := true, laidLooks := .later }
def BaseFullCardSaid : Prop := Claim7.holds Tryd.pinned (.plain (OpenSpec.ofChange baseFullSpec)) baseFullCard

/-- THE SECOND FORM's CARD OF 'gangwaylaw07.TicketWrites'. -/
def ticketWritesUptoCard : Claim7 := { stood := { row := ticketWritesUptoRow, standIns := [], harness := (true, "0c3f58e269dd1d19497f6cbbae84fc987d3d2ff6b9b63c8ce7df90213f55e66f"), looks := false }, kinds := [], alts := [], laidByText := true, laidKinds := [.data, .pinned], laidTests := true, laidLooks := .later }
def TicketWritesUptoCardSaid : Prop := Claim7.holds Tryd.pinned (.plain (OpenSpec.upto ticketWritesSpec)) ticketWritesUptoCard

/-- THE SECOND FORM's CARD OF 'gangwaylaw07.TicketAuths'. -/
def ticketAuthsUptoCard : Claim7 := { stood := { row := ticketAuthsUptoRow, standIns := [], harness := (true, "0c3f58e269dd1d19497f6cbbae84fc987d3d2ff6b9b63c8ce7df90213f55e66f"), looks := false }, kinds := [], alts := [], laidByText := true, laidKinds := [.data, .pinned], laidTests := true, laidLooks := .later }
def TicketAuthsUptoCardSaid : Prop := Claim7.holds Tryd.pinned (.plain (OpenSpec.upto ticketAuthsSpec)) ticketAuthsUptoCard

/-- THE SECOND FORM's CARD OF 'gangwaylaw07.TicketGrants'. -/
def ticketGrantsUptoCard : Claim7 := { stood := { row := ticketGrantsUptoRow, standIns := [], harness := (true, "0c3f58e269dd1d19497f6cbbae84fc987d3d2ff6b9b63c8ce7df90213f55e66f"), looks := false }, kinds := [], alts := [], laidByText := true, laidKinds := [.data, .pinned], laidTests := true, laidLooks := .later }
def TicketGrantsUptoCardSaid : Prop := Claim7.holds Tryd.pinned (.plain (OpenSpec.upto ticketGrantsSpec)) ticketGrantsUptoCard

/-- THE SECOND FORM's CARD OF 'gangwaylaw08.KrbNames'. -/
def krbNamesUptoCard : Claim7 := { stood := { row := krbNamesUptoRow, standIns := [], harness := (true, "0c3f58e269dd1d19497f6cbbae84fc987d3d2ff6b9b63c8ce7df90213f55e66f"), looks := false }, kinds := [], alts := [], laidByText := true, laidKinds := [.data, .pinned], laidTests := true, laidLooks := .later }
def KrbNamesUptoCardSaid : Prop := Claim7.holds Tryd.pinned (.plain (OpenSpec.upto krbNamesSpec)) krbNamesUptoCard

/-- THE SECOND FORM's CARD OF 'gangwaylaw08.KrbWrites'. -/
def krbWritesUptoCard : Claim7 := { stood := { row := krbWritesUptoRow, standIns := [], harness := (true, "0c3f58e269dd1d19497f6cbbae84fc987d3d2ff6b9b63c8ce7df90213f55e66f"), looks := false }, kinds := [], alts := [], laidByText := true, laidKinds := [.data, .pinned], laidTests := true, laidLooks := .later }
def KrbWritesUptoCardSaid : Prop := Claim7.holds Tryd.pinned (.plain (OpenSpec.upto krbWritesSpec)) krbWritesUptoCard

/-- THE SECOND FORM's CARD OF 'gangwaylaw08.KrbReads'. -/
def krbReadsUptoCard : Claim7 := { stood := { row := krbReadsUptoRow, standIns := [], harness := (true, "0c3f58e269dd1d19497f6cbbae84fc987d3d2ff6b9b63c8ce7df90213f55e66f"), looks := false }, kinds := [], alts := [], laidByText := true, laidKinds := [.data, .pinned], laidTests := true, laidLooks := .later }
def KrbReadsUptoCardSaid : Prop := Claim7.holds Tryd.pinned (.plain (OpenSpec.upto krbReadsSpec)) krbReadsUptoCard

/-- THE SECOND FORM's CARD OF 'gangwaylaw08.KrbApart'. -/
def krbApartUptoCard : Claim7 := { stood := { row := krbApartUptoRow, standIns := [], harness := (true, "0c3f58e269dd1d19497f6cbbae84fc987d3d2ff6b9b63c8ce7df90213f55e66f"), looks := false }, kinds := [], alts := [], laidByText := true, laidKinds := [.data, .pinned], laidTests := true, laidLooks := .later }
def KrbApartUptoCardSaid : Prop := Claim7.holds Tryd.pinned (.plain (OpenSpec.upto krbApartSpec)) krbApartUptoCard

/-- THE SECOND FORM's CARD OF 'gangwaylaw08.KrbCuts'. -/
def krbCutsUptoCard : Claim7 := { stood := { row := krbCutsUptoRow, standIns := [], harness := (true, "0c3f58e269dd1d19497f6cbbae84fc987d3d2ff6b9b63c8ce7df90213f55e66f"), looks := false }, kinds := [], alts := [], laidByText := true, laidKinds := [.data, .pinned], laidTests := true, laidLooks := .later }
def KrbCutsUptoCardSaid : Prop := Claim7.holds Tryd.pinned (.plain (OpenSpec.upto krbCutsSpec)) krbCutsUptoCard

/-- THE SECOND FORM's CARD OF 'gangwaylaw08.KrbBare'. -/
def krbBareUptoCard : Claim7 := { stood := { row := krbBareUptoRow, standIns := [], harness := (true, "0c3f58e269dd1d19497f6cbbae84fc987d3d2ff6b9b63c8ce7df90213f55e66f"), looks := false }, kinds := [], alts := [], laidByText := true, laidKinds := [.data, .pinned], laidTests := true, laidLooks := .later }
def KrbBareUptoCardSaid : Prop := Claim7.holds Tryd.pinned (.plain (OpenSpec.upto krbBareSpec)) krbBareUptoCard

/-- THE SECOND FORM's CARD OF 'gangwaylaw09.BasePlays'. -/
def basePlaysUptoCard : Claim7 := { stood := { row := basePlaysUptoRow, standIns := [], harness := (true, "0c3f58e269dd1d19497f6cbbae84fc987d3d2ff6b9b63c8ce7df90213f55e66f"), looks := false }, kinds := [], alts := [], laidByText := true, laidKinds := [.data, .pinned], laidTests := true, laidLooks := .later }
def BasePlaysUptoCardSaid : Prop := Claim7.holds Tryd.pinned (.plain (OpenSpec.upto basePlaysSpec)) basePlaysUptoCard

/-- THE SECOND FORM's CARD OF 'gangwaylaw09.BaseLast'. -/
def baseLastUptoCard : Claim7 := { stood := { row := baseLastUptoRow, standIns := [], harness := (true, "0c3f58e269dd1d19497f6cbbae84fc987d3d2ff6b9b63c8ce7df90213f55e66f"), looks := false }, kinds := [], alts := [], laidByText := true, laidKinds := [.data, .pinned], laidTests := true, laidLooks := .later }
def BaseLastUptoCardSaid : Prop := Claim7.holds Tryd.pinned (.plain (OpenSpec.upto baseLastSpec)) baseLastUptoCard

/-- THE SECOND FORM's CARD OF 'gangwaylaw09.BaseFull'. -/
def baseFullUptoCard : Claim7 := { stood := { row := baseFullUptoRow, standIns := [], harness := (true, "0c3f58e269dd1d19497f6cbbae84fc987d3d2ff6b9b63c8ce7df90213f55e66f"), looks := false }, kinds := [], alts := [], laidByText := true, laidKinds := [.data, .pinned], laidTests := true, laidLooks := .later }
def BaseFullUptoCardSaid : Prop := Claim7.holds Tryd.pinned (.plain (OpenSpec.upto baseFullSpec)) baseFullUptoCard
end Rows
end Go.Proofs.YtnaoagiphehcaaaDoor
