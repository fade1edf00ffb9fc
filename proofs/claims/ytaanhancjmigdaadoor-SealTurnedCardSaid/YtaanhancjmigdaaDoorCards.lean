/-
  DERIVED. GIVEN WITH THE SEED: THE CARDS: each row of YtaanhancjmigdaaDoorRows.lean that lists a variable, with what it lists TIED to the program's text (the seventh form; the later family's looks); each row that meets fmt, with fmt's text TOLD by the authors' own Lean function (tested against real Go, not proved from fmt's source: count such statements apart). THE CARD IS WHAT COUNTS. Prove the row's statement (the work); the ties are given (YtaanhancjmigdaaDoorTie.lean); close each card by the builder's one call (the guide's Derived/Test/ToyasCard.lean, 'card_holds'). Laid BY PROGRAM, IN A SANDBOX (cutbox-door.mjs). By AI agents, Wed Nov 11 2026. No macro, syntax, notation, axiom, sorry.
-/
import Derived.Test.YtaanhancjmigdaaDoorRows
import GoSem.ClaimSeven
namespace Go.Proofs.YtaanhancjmigdaaDoor
namespace Rows

/-- THE TIED CARD OF 'gangwaylaw06.SealPlays'. -/
def sealPlaysCard : Claim7 := { stood := { row := sealPlaysRow, standIns := [], harness := (true, "6d4766b3250d8209e22cdb14f94b80400f94f566db9604f8118255f5d1695f8b"), looks := false }, kinds := [], alts := [], laidByText := true, laidKinds := [.data, .data, .pinned], laidTests := true, laidLooks := .later }
def SealPlaysCardSaid : Prop := Claim7.holds Tryd.pinned (.plain (OpenSpec.ofChange sealPlaysSpec)) sealPlaysCard

/-- THE TIED CARD OF 'gangwaylaw06.SealBack'. -/
def sealBackCard : Claim7 := { stood := { row := sealBackRow, standIns := [], harness := (true, "6d4766b3250d8209e22cdb14f94b80400f94f566db9604f8118255f5d1695f8b"), looks := false }, kinds := [], alts := [], laidByText := true, laidKinds := [.data, .data, .pinned], laidTests := true, laidLooks := .later }
def SealBackCardSaid : Prop := Claim7.holds Tryd.pinned (.plain (OpenSpec.ofChange sealBackSpec)) sealBackCard

/-- THE TIED CARD OF 'gangwaylaw06.SealFresh'. -/
def sealFreshCard : Claim7 := { stood := { row := sealFreshRow, standIns := [], harness := (true, "6d4766b3250d8209e22cdb14f94b80400f94f566db9604f8118255f5d1695f8b"), looks := false }, kinds := [], alts := [], laidByText := true, laidKinds := [.data, .data, .pinned], laidTests := true, laidLooks := .later }
def SealFreshCardSaid : Prop := Claim7.holds Tryd.pinned (.plain (OpenSpec.ofChange sealFreshSpec)) sealFreshCard

/-- THE TIED CARD OF 'gangwaylaw06.SealNobody'. -/
def sealNobodyCard : Claim7 := { stood := { row := sealNobodyRow, standIns := [], harness := (true, "6d4766b3250d8209e22cdb14f94b80400f94f566db9604f8118255f5d1695f8b"), looks := false }, kinds := [], alts := [], laidByText := true, laidKinds := [.data, .data, .pinned], laidTests := true, laidLooks := .later }
def SealNobodyCardSaid : Prop := Claim7.holds Tryd.pinned (.plain (OpenSpec.ofChange sealNobodySpec)) sealNobodyCard

/-- THE TIED CARD OF 'gangwaylaw06.SealNumbers'. -/
def sealNumbersCard : Claim7 := { stood := { row := sealNumbersRow, standIns := [], harness := (true, "6d4766b3250d8209e22cdb14f94b80400f94f566db9604f8118255f5d1695f8b"), looks := false }, kinds := [], alts := [], laidByText := true, laidKinds := [.data, .data, .pinned], laidTests := true, laidLooks := .later }
def SealNumbersCardSaid : Prop := Claim7.holds Tryd.pinned (.plain (OpenSpec.ofChange sealNumbersSpec)) sealNumbersCard

/-- THE TIED CARD OF 'gangwaylaw06.SealTurned'. -/
def sealTurnedCard : Claim7 := { stood := { row := sealTurnedRow, standIns := [], harness := (true, "6d4766b3250d8209e22cdb14f94b80400f94f566db9604f8118255f5d1695f8b"), looks := false }, kinds := [], alts := [], laidByText := true, laidKinds := [.data, .data, .pinned], laidTests := true, laidLooks := .later }
def SealTurnedCardSaid : Prop := Claim7.holds Tryd.pinned (.plain (OpenSpec.ofChange sealTurnedSpec)) sealTurnedCard

/-- THE SECOND FORM's CARD OF 'gangwaylaw06.SealPlays'. -/
def sealPlaysUptoCard : Claim7 := { stood := { row := sealPlaysUptoRow, standIns := [], harness := (true, "6d4766b3250d8209e22cdb14f94b80400f94f566db9604f8118255f5d1695f8b"), looks := false }, kinds := [], alts := [], laidByText := true, laidKinds := [.data, .data, .pinned], laidTests := true, laidLooks := .later }
def SealPlaysUptoCardSaid : Prop := Claim7.holds Tryd.pinned (.plain (OpenSpec.upto sealPlaysSpec)) sealPlaysUptoCard

/-- THE SECOND FORM's CARD OF 'gangwaylaw06.SealBack'. -/
def sealBackUptoCard : Claim7 := { stood := { row := sealBackUptoRow, standIns := [], harness := (true, "6d4766b3250d8209e22cdb14f94b80400f94f566db9604f8118255f5d1695f8b"), looks := false }, kinds := [], alts := [], laidByText := true, laidKinds := [.data, .data, .pinned], laidTests := true, laidLooks := .later }
def SealBackUptoCardSaid : Prop := Claim7.holds Tryd.pinned (.plain (OpenSpec.upto sealBackSpec)) sealBackUptoCard

/-- THE SECOND FORM's CARD OF 'gangwaylaw06.SealFresh'. -/
def sealFreshUptoCard : Claim7 := { stood := { row := sealFreshUptoRow, standIns := [], harness := (true, "6d4766b3250d8209e22cdb14f94b80400f94f566db9604f8118255f5d1695f8b"), looks := false }, kinds := [], alts := [], laidByText := true, laidKinds := [.data, .data, .pinned], laidTests := true, laidLooks := .later }
def SealFreshUptoCardSaid : Prop := Claim7.holds Tryd.pinned (.plain (OpenSpec.upto sealFreshSpec)) sealFreshUptoCard

/-- THE SECOND FORM's CARD OF 'gangwaylaw06.SealNobody'. -/
def sealNobodyUptoCard : Claim7 := { stood := { row := sealNobodyUptoRow, standIns := [], harness := (true, "6d4766b3250d8209e22cdb14f94b80400f94f566db9604f8118255f5d1695f8b"), looks := false }, kinds := [], alts := [], laidByText := true, laidKinds := [.data, .data, .pinned], laidTests := true, laidLooks := .later }
def SealNobodyUptoCardSaid : Prop := Claim7.holds Tryd.pinned (.plain (OpenSpec.upto sealNobodySpec)) sealNobodyUptoCard

/-- THE SECOND FORM's CARD OF 'gangwaylaw06.SealNumbers'. -/
def sealNumbersUptoCard : Claim7 := { stood := { row := sealNumbersUptoRow, standIns := [], harness := (true, "6d4766b3250d8209e22cdb14f94b80400f94f566db9604f8118255f5d1695f8b"), looks := false }, kinds := [], alts := [], laidByText := true, laidKinds := [.data, .data, .pinned], laidTests := true, laidLooks := .later }
def SealNumbersUptoCardSaid : Prop := Claim7.holds Tryd.pinned (.plain (OpenSpec.upto sealNumbersSpec)) sealNumbersUptoCard

/-- THE SECOND FORM's CARD OF 'gangwaylaw06.SealTurned'. -/
def sealTurnedUptoCard : Claim7 := { stood := { row := sealTurnedUptoRow, standIns := [], harness := (true, "6d4766b3250d8209e22cdb14f94b80400f94f566db9604f8118255f5d1695f8b"), looks := false }, kinds := [], alts := [], laidByText := true, laidKinds := [.data, .data, .pinned], laidTests := true, laidLooks := .later }
def SealTurnedUptoCardSaid : Prop := Claim7.holds Tryd.pinned (.plain (OpenSpec.upto sealTurnedSpec)) sealTurnedUptoCard
end Rows
end Go.Proofs.YtaanhancjmigdaaDoor
