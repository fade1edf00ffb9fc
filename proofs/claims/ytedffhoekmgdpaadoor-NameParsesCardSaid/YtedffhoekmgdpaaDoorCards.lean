/-
  DERIVED. GIVEN WITH THE SEED: THE CARDS: each row of YtedffhoekmgdpaaDoorRows.lean that lists a variable, with what it lists TIED to the program's text (the seventh form; the later family's looks); each row that meets fmt, with fmt's text TOLD by the authors' own Lean function (tested against real Go, not proved from fmt's source: count such statements apart). THE CARD IS WHAT COUNTS. Prove the row's statement (the work); the ties are given (YtedffhoekmgdpaaDoorTie.lean); close each card by the builder's one call (the guide's Derived/Test/ToyasCard.lean, 'card_holds'). Laid BY PROGRAM, IN A SANDBOX (cutbox-door.mjs). By AI agents, Wed Nov 11 2026. No macro, syntax, notation, axiom, sorry.
-/
import Derived.Test.YtedffhoekmgdpaaDoorRows
import GoSem.ClaimSeven
namespace Go.Proofs.YtedffhoekmgdpaaDoor
namespace Rows

/-- THE TIED CARD OF 'gangwaylaw02.NameTexts'. -/
def nameTextsCard : Claim7 := { stood := { row := nameTextsRow, standIns := [], harness := (true, "7ffb9c5101f2fb8084f055df4c37450d8cb833d99dce4a0d0034c36dd1ec3de0"), looks := false }, kinds := [], alts := [], laidByText := true, laidKinds := [.data, .pinned], laidTests := true, laidLooks := .later }
def NameTextsCardSaid : Prop := Claim7.holds Tryd.pinned (.plain (OpenSpec.ofChange nameTextsSpec)) nameTextsCard

/-- THE TIED CARD OF 'gangwaylaw02.NameParses'. -/
def nameParsesCard : Claim7 := { stood := { row := nameParsesRow, standIns := [], harness := (true, "7ffb9c5101f2fb8084f055df4c37450d8cb833d99dce4a0d0034c36dd1ec3de0"), looks := false }, kinds := [], alts := [], laidByText := true, laidKinds := [.data, .pinned], laidTests := true, laidLooks := .later }
def NameParsesCardSaid : Prop := Claim7.holds Tryd.pinned (.plain (OpenSpec.ofChange nameParsesSpec)) nameParsesCard

/-- THE TIED CARD OF 'gangwaylaw02.NameSame'. -/
def nameSameCard : Claim7 := { stood := { row := nameSameRow, standIns := [], harness := (true, "7ffb9c5101f2fb8084f055df4c37450d8cb833d99dce4a0d0034c36dd1ec3de0"), looks := false }, kinds := [], alts := [], laidByText := true, laidKinds := [.data, .pinned], laidTests := true, laidLooks := .later }
def NameSameCardSaid : Prop := Claim7.holds Tryd.pinned (.plain (OpenSpec.ofChange nameSameSpec)) nameSameCard

/-- THE TIED CARD OF 'gangwaylaw02.NameApart'. -/
def nameApartCard : Claim7 := { stood := { row := nameApartRow, standIns := [], harness := (true, "7ffb9c5101f2fb8084f055df4c37450d8cb833d99dce4a0d0034c36dd1ec3de0"), looks := false }, kinds := [], alts := [], laidByText := true, laidKinds := [.data, .pinned], laidTests := true, laidLooks := .later }
def NameApartCardSaid : Prop := Claim7.holds Tryd.pinned (.plain (OpenSpec.ofChange nameApartSpec)) nameApartCard

/-- THE TIED CARD OF 'gangwaylaw02.NameLimits'. -/
def nameLimitsCard : Claim7 := { stood := { row := nameLimitsRow, standIns := [], harness := (true, "7ffb9c5101f2fb8084f055df4c37450d8cb833d99dce4a0d0034c36dd1ec3de0"), looks := false }, kinds := [], alts := [], laidByText := true, laidKinds := [.data, .pinned], laidTests := true, laidLooks := .later }
def NameLimitsCardSaid : Prop := Claim7.holds Tryd.pinned (.plain (OpenSpec.ofChange nameLimitsSpec)) nameLimitsCard

/-- THE SECOND FORM's CARD OF 'gangwaylaw02.NameTexts'. -/
def nameTextsUptoCard : Claim7 := { stood := { row := nameTextsUptoRow, standIns := [], harness := (true, "7ffb9c5101f2fb8084f055df4c37450d8cb833d99dce4a0d0034c36dd1ec3de0"), looks := false }, kinds := [], alts := [], laidByText := true, laidKinds := [.data, .pinned], laidTests := true, laidLooks := .later }
def NameTextsUptoCardSaid : Prop := Claim7.holds Tryd.pinned (.plain (OpenSpec.upto nameTextsSpec)) nameTextsUptoCard

/-- THE SECOND FORM's CARD OF 'gangwaylaw02.NameParses'. -/
def nameParsesUptoCard : Claim7 := { stood := { row := nameParsesUptoRow, standIns := [], harness := (true, "7ffb9c5101f2fb8084f055df4c37450d8cb833d99dce4a0d0034c36dd1ec3de0"), looks := false }, kinds := [], alts := [], laidByText := true, laidKinds := [.data, .pinned], laidTests := true, laidLooks := .later }
def NameParsesUptoCardSaid : Prop := Claim7.holds Tryd.pinned (.plain (OpenSpec.upto nameParsesSpec)) nameParsesUptoCard

/-- THE SECOND FORM's CARD OF 'gangwaylaw02.NameSame'. -/
def nameSameUptoCard : Claim7 := { stood := { row := nameSameUptoRow, standIns := [], harness := (true, "7ffb9c5101f2fb8084f055df4c37450d8cb833d99dce4a0d0034c36dd1ec3de0"), looks := false }, kinds := [], alts := [], laidByText := true, laidKinds := [.data, .pinned], laidTests := true, laidLooks := .later }
def NameSameUptoCardSaid : Prop := Claim7.holds Tryd.pinned (.plain (OpenSpec.upto nameSameSpec)) nameSameUptoCard

/-- THE SECOND FORM's CARD OF 'gangwaylaw02.NameApart'. -/
def nameApartUptoCard : Claim7 := { stood := { row := nameApartUptoRow, standIns := [], harness := (true, "7ffb9c5101f2fb8084f055df4c37450d8cb833d99dce4a0d0034c36dd1ec3de0"), looks := false }, kinds := [], alts := [], laidByText := true, laidKinds := [.data, .pinned], laidTests := true, laidLooks := .later }
def NameApartUptoCardSaid : Prop := Claim7.holds Tryd.pinned (.plain (OpenSpec.upto nameApartSpec)) nameApartUptoCard

/-- THE SECOND FORM's CARD OF 'gangwaylaw02.NameLimits'. -/
def nameLimitsUptoCard : Claim7 := { stood := { row := nameLimitsUptoRow, standIns := [], harness := (true, "7ffb9c5101f2fb8084f055df4c37450d8cb833d99dce4a0d0034c36dd1ec3de0"), looks := false }, kinds := [], alts := [], laidByText := true, laidKinds := [.data, .pinned], laidTests := true, laidLooks := .later }
def NameLimitsUptoCardSaid : Prop := Claim7.holds Tryd.pinned (.plain (OpenSpec.upto nameLimitsSpec)) nameLimitsUptoCard
end Rows
end Go.Proofs.YtedffhoekmgdpaaDoor
