/-
  DERIVED. GIVEN WITH THE SEED: THE CARDS: each row of YtejmbabeniekhaaDoorRows.lean that lists a variable, with what it lists TIED to the program's text (the seventh form; the later family's looks); each row that meets fmt, with fmt's text TOLD by the authors' own Lean function (tested against real Go, not proved from fmt's source: count such statements apart). THE CARD IS WHAT COUNTS. Prove the row's statement (the work); the ties are given (YtejmbabeniekhaaDoorTie.lean); close each card by the builder's one call (the guide's Derived/Test/ToyasCard.lean, 'card_holds'). Laid BY PROGRAM, IN A SANDBOX (cutbox-door.mjs). By AI agents, Wed Nov 11 2026. No macro, syntax, notation, axiom, sorry.
-/
import Derived.Test.YtejmbabeniekhaaDoorRows
import GoSem.ClaimSeven
namespace Go.Proofs.YtejmbabeniekhaaDoor
namespace Rows

/-- THE TIED CARD OF 'gangwaylaw08.KrbWrites'. -/
def krbWritesCard : Claim7 := { stood := { row := krbWritesRow, standIns := [], harness := (true, "0429b3ee29c4fdf891776599f17eadd9b5fed1cf1eac21e1e0a642e3e135e55c"), looks := false }, kinds := [], alts := [], laidByText := true, laidKinds := [.data, .pinned], laidTests := true, laidLooks := .later }
def KrbWritesCardSaid : Prop := Claim7.holds Tryd.pinned (.plain (OpenSpec.ofChange krbWritesSpec)) krbWritesCard

/-- THE TIED CARD OF 'gangwaylaw08.KrbReads'. -/
def krbReadsCard : Claim7 := { stood := { row := krbReadsRow, standIns := [], harness := (true, "0429b3ee29c4fdf891776599f17eadd9b5fed1cf1eac21e1e0a642e3e135e55c"), looks := false }, kinds := [], alts := [], laidByText := true, laidKinds := [.data, .pinned], laidTests := true, laidLooks := .later }
def KrbReadsCardSaid : Prop := Claim7.holds Tryd.pinned (.plain (OpenSpec.ofChange krbReadsSpec)) krbReadsCard

/-- THE TIED CARD OF 'gangwaylaw09.BasePlays'. -/
def basePlaysCard : Claim7 := { stood := { row := basePlaysRow, standIns := [], harness := (true, "0429b3ee29c4fdf891776599f17eadd9b5fed1cf1eac21e1e0a642e3e135e55c"), looks := false }, kinds := [], alts := [], laidByText := true, laidKinds := [.data, .pinned], laidTests := true, laidLooks := .later }
def BasePlaysCardSaid : Prop := Claim7.holds Tryd.pinned (.plain (OpenSpec.ofChange basePlaysSpec)) basePlaysCard

/-- THE TIED CARD OF 'gangwaylaw09.BaseLast'. -/
def baseLastCard : Claim7 := { stood := { row := baseLastRow, standIns := [], harness := (true, "0429b3ee29c4fdf891776599f17eadd9b5fed1cf1eac21e1e0a642e3e135e55c"), looks := false }, kinds := [], alts := [], laidByText := true, laidKinds := [.data, .pinned], laidTests := true, laidLooks := .later }
def BaseLastCardSaid : Prop := Claim7.holds Tryd.pinned (.plain (OpenSpec.ofChange baseLastSpec)) baseLastCard

/-- THE TIED CARD OF 'gangwaylaw09.BaseFull'. -/
def baseFullCard : Claim7 := { stood := { row := baseFullRow, standIns := [], harness := (true, "0429b3ee29c4fdf891776599f17eadd9b5fed1cf1eac21e1e0a642e3e135e55c"), looks := false }, kinds := [], alts := [], laidByText := true, laidKinds := [.data, .pinned], laidTests := true, laidLooks := .later }
def BaseFullCardSaid : Prop := Claim7.holds Tryd.pinned (.plain (OpenSpec.ofChange baseFullSpec)) baseFullCard

/-- THE TIED CARD OF 'gangwaylaw11.CachePlays'. -/
def cachePlaysCard : Claim7 := { stood := { row := cachePlaysRow, standIns := [], harness := (true, "0429b3ee29c4fdf891776599f17eadd9b5fed1cf1eac21e1e0a642e3e135e55c"), looks := false }, kinds := [], alts := [], laidByText := true, laidKinds := [.data, .pinned], laidTests := true, laidLooks := .later }
def CachePlaysCardSaid : Prop := Claim7.holds Tryd.pinned (.plain (OpenSpec.ofChange cachePlaysSpec)) cachePlaysCard

/-- THE TIED CARD OF 'gangwaylaw11.CacheFresh'. -/
def cacheFreshCard : Claim7 := { stood := { row := cacheFreshRow, standIns := [], harness := (true, "0429b3ee29c4fdf891776599f17eadd9b5fed1cf1eac21e1e0a642e3e135e55c"), looks := false }, kinds := [], alts := [], laidByText := true, laidKinds := [.data, .pinned], laidTests := true, laidLooks := .later }
def CacheFreshCardSaid : Prop := Claim7.holds Tryd.pinned (.plain (OpenSpec.ofChange cacheFreshSpec)) cacheFreshCard

/-- THE TIED CARD OF 'gangwaylaw11.CacheMost'. -/
def cacheMostCard : Claim7 := { stood := { row := cacheMostRow, standIns := [], harness := (true, "0429b3ee29c4fdf891776599f17eadd9b5fed1cf1eac21e1e0a642e3e135e55c"), looks := false }, kinds := [], alts := [], laidByText := true, laidKinds := [.data, .pinned], laidTests := true, laidLooks := .later }
def CacheMostCardSaid : Prop := Claim7.holds Tryd.pinned (.plain (OpenSpec.ofChange cacheMostSpec)) cacheMostCard

/-- THE SECOND FORM's CARD OF 'gangwaylaw08.KrbWrites'. -/
def krbWritesUptoCard : Claim7 := { stood := { row := krbWritesUptoRow, standIns := [], harness := (true, "0429b3ee29c4fdf891776599f17eadd9b5fed1cf1eac21e1e0a642e3e135e55c"), looks := false }, kinds := [], alts := [], laidByText := true, laidKinds := [.data, .pinned], laidTests := true, laidLooks := .later }
def KrbWritesUptoCardSaid : Prop := Claim7.holds Tryd.pinned (.plain (OpenSpec.upto krbWritesSpec)) krbWritesUptoCard

/-- THE SECOND FORM's CARD OF 'gangwaylaw08.KrbReads'. -/
def krbReadsUptoCard : Claim7 := { stood := { row := krbReadsUptoRow, standIns := [], harness := (true, "0429b3ee29c4fdf891776599f17eadd9b5fed1cf1eac21e1e0a642e3e135e55c"), looks := false }, kinds := [], alts := [], laidByText := true, laidKinds := [.data, .pinned], laidTests := true, laidLooks := .later }
def KrbReadsUptoCardSaid : Prop := Claim7.holds Tryd.pinned (.plain (OpenSpec.upto krbReadsSpec)) krbReadsUptoCard

/-- THE SECOND FORM's CARD OF 'gangwaylaw09.BasePlays'. -/
def basePlaysUptoCard : Claim7 := { stood := { row := basePlaysUptoRow, standIns := [], harness := (true, "0429b3ee29c4fdf891776599f17eadd9b5fed1cf1eac21e1e0a642e3e135e55c"), looks := false }, kinds := [], alts := [], laidByText := true, laidKinds := [.data, .pinned], laidTests := true, laidLooks := .later }
def BasePlaysUptoCardSaid : Prop := Claim7.holds Tryd.pinned (.plain (OpenSpec.upto basePlaysSpec)) basePlaysUptoCard

/-- THE SECOND FORM's CARD OF 'gangwaylaw09.BaseLast'. -/
def baseLastUptoCard : Claim7 := { stood := { row := baseLastUptoRow, standIns := [], harness := (true, "0429b3ee29c4fdf891776599f17eadd9b5fed1cf1eac21e1e0a642e3e135e55c"), looks := false }, kinds := [], alts := [], laidByText := true, laidKinds := [.data, .pinned], laidTests := true, laidLooks := .later }
def BaseLastUptoCardSaid : Prop := Claim7.holds Tryd.pinned (.plain (OpenSpec.upto baseLastSpec)) baseLastUptoCard

/-- THE SECOND FORM's CARD OF 'gangwaylaw09.BaseFull'. -/
def baseFullUptoCard : Claim7 := { stood := { row := baseFullUptoRow, standIns := [], harness := (true, "0429b3ee29c4fdf891776599f17eadd9b5fed1cf1eac21e1e0a642e3e135e55c"), looks := false }, kinds := [], alts := [], laidByText := true, laidKinds := [.data, .pinned], laidTests := true, laidLooks := .later }
def BaseFullUptoCardSaid : Prop := Claim7.holds Tryd.pinned (.plain (OpenSpec.upto baseFullSpec)) baseFullUptoCard

/-- THE SECOND FORM's CARD OF 'gangwaylaw11.CachePlays'. -/
def cachePlaysUptoCard : Claim7 := { stood := { row := cachePlaysUptoRow, standIns := [], harness := (true, "0429b3ee29c4fdf891776599f17eadd9b5fed1cf1eac21e1e0a642e3e135e55c"), looks := false }, kinds := [], alts := [], laidByText := true, laidKinds := [.data, .pinned], laidTests := true, laidLooks := .later }
def CachePlaysUptoCardSaid : Prop := Claim7.holds Tryd.pinned (.plain (OpenSpec.upto cachePlaysSpec)) cachePlaysUptoCard

/-- THE SECOND FORM's CARD OF 'gangwaylaw11.CacheFresh'. -/
def cacheFreshUptoCard : Claim7 := { stood := { row := cacheFreshUptoRow, standIns := [], harness := (true, "0429b3ee29c4fdf891776599f17eadd9b5fed1cf1eac21e1e0a642e3e135e55c"), looks := false }, kinds := [], alts := [], laidByText := true, laidKinds := [.data, .pinned], laidTests := true, laidLooks := .later }
def CacheFreshUptoCardSaid : Prop := Claim7.holds Tryd.pinned (.plain (OpenSpec.upto cacheFreshSpec)) cacheFreshUptoCard

/-- THE SECOND FORM's CARD OF 'gangwaylaw11.CacheMost'. -/
def cacheMostUptoCard : Claim7 := { stood := { row := cacheMostUptoRow, standIns := [], harness := (true, "0429b3ee29c4fdf891776599f17eadd9b5fed1cf1eac21e1e0a642e3e135e55c"), looks := false }, kinds := [], alts := [], laidByText := true, laidKinds := [.data, .pinned], laidTests := true, laidLooks := .later }
def CacheMostUptoCardSaid : Prop := Claim7.holds Tryd.pinned (.plain (OpenSpec.upto cacheMostSpec)) cacheMostUptoCard
end Rows
end Go.Proofs.YtejmbabeniekhaaDoor
