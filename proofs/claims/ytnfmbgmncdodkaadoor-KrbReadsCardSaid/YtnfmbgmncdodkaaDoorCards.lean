/-
  DERIVED. GIVEN WITH THE SEED: THE CARDS: each row of YtnfmbgmncdodkaaDoorRows.lean that lists a variable, with what it lists TIED to the program's text (the seventh form; the later family's looks); each row that meets fmt, with fmt's text TOLD by the authors' own Lean function (tested against real Go, not proved from fmt's source: count such statements apart). THE CARD IS WHAT COUNTS. Prove the row's statement (the work); the ties are given (YtnfmbgmncdodkaaDoorTie.lean); close each card by the builder's one call (the guide's Derived/Test/ToyasCard.lean, 'card_holds'). Laid BY PROGRAM, IN A SANDBOX (cutbox-door.mjs). By AI agents, Wed Nov 11 2026. No macro, syntax, notation, axiom, sorry.
-/
import Derived.Test.YtnfmbgmncdodkaaDoorRows
import GoSem.ClaimSeven
namespace Go.Proofs.YtnfmbgmncdodkaaDoor
namespace Rows

/-- THE TIED CARD OF 'gangwaylaw08.KrbReads'. -/
def krbReadsCard : Claim7 := { stood := { row := krbReadsRow, standIns := [], harness := (true, "7841fb2fedd73a2ca5151b06d7946eb63f88c1f097609e04c4ef40ba0234a5f2"), looks := false }, kinds := [], alts := [], laidByText := true, laidKinds := [.data, .pinned], laidTests := true, laidLooks := .later }
def KrbReadsCardSaid : Prop := Claim7.holds Tryd.pinned (.plain (OpenSpec.ofChange krbReadsSpec)) krbReadsCard

/-- THE TIED CARD OF 'gangwaylaw11.CachePlays'. -/
def cachePlaysCard : Claim7 := { stood := { row := cachePlaysRow, standIns := [], harness := (true, "7841fb2fedd73a2ca5151b06d7946eb63f88c1f097609e04c4ef40ba0234a5f2"), looks := false }, kinds := [], alts := [], laidByText := true, laidKinds := [.data, .pinned], laidTests := true, laidLooks := .later }
def CachePlaysCardSaid : Prop := Claim7.holds Tryd.pinned (.plain (OpenSpec.ofChange cachePlaysSpec)) cachePlaysCard

/-- THE SECOND FORM's CARD OF 'gangwaylaw08.KrbReads'. -/
def krbReadsUptoCard : Claim7 := { stood := { row := krbReadsUptoRow, standIns := [], harness := (true, "7841fb2fedd73a2ca5151b06d7946eb63f88c1f097609e04c4ef40ba0234a5f2"), looks := false }, kinds := [], alts := [], laidByText := true, laidKinds := [.data, .pinned], laidTests := true, laidLooks := .later }
def KrbReadsUptoCardSaid : Prop := Claim7.holds Tryd.pinned (.plain (OpenSpec.upto krbReadsSpec)) krbReadsUptoCard

/-- THE SECOND FORM's CARD OF 'gangwaylaw11.CachePlays'. -/
def cachePlaysUptoCard : Claim7 := { stood := { row := cachePlaysUptoRow, standIns := [], harness := (true, "7841fb2fedd73a2ca5151b06d7946eb63f88c1f097609e04c4ef40ba0234a5f2"), looks := false }, kinds := [], alts := [], laidByText := true, laidKinds := [.data, .pinned], laidTests := true, laidLooks := .later }
def CachePlaysUptoCardSaid : Prop := Claim7.holds Tryd.pinned (.plain (OpenSpec.upto cachePlaysSpec)) cachePlaysUptoCard
end Rows
end Go.Proofs.YtnfmbgmncdodkaaDoor
