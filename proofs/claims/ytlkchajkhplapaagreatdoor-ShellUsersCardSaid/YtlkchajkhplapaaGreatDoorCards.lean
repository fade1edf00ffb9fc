/-
  DERIVED. GIVEN WITH THE SEED: THE CARDS: each row of YtlkchajkhplapaaGreatDoorRows.lean that lists a variable, with what it lists TIED to the program's text (the seventh form; the later family's looks); each row that meets fmt, with fmt's text TOLD by the authors' own Lean function (tested against real Go, not proved from fmt's source: count such statements apart). THE CARD IS WHAT COUNTS. Prove the row's statement (the work); the ties are given (YtlkchajkhplapaaGreatDoorTie.lean); close each card by the builder's one call (the guide's Derived/Test/ToyasCard.lean, 'card_holds'). Laid BY PROGRAM, IN A SANDBOX (cutbox-door.mjs). By AI agents, Wed Nov 11 2026. No macro, syntax, notation, axiom, sorry.
-/
import Derived.Test.YtlkchajkhplapaaGreatDoorRows
import GoSem.ClaimSeven
namespace Go.Proofs.YtlkchajkhplapaaGreatDoor
namespace Rows

/-- THE TIED CARD OF 'gangwaylaw19.TreePlays'. -/
def treePlaysCard : Claim7 := { stood := { row := treePlaysRow, standIns := [], harness := (true, "a723b39ff57829694ed9a7c66865c789591a5f13efdff6b9f6b86537aa62ee6c"), looks := true }, kinds := [], alts := [], laidByText := true, laidKinds := [.data, .pinned], laidTests := true, laidLooks := .later }
def TreePlaysCardSaid : Prop := Claim7.holds Tryz.pinned (.plain (OpenSpec.ofChange treePlaysSpec)) treePlaysCard

/-- THE TIED CARD OF 'gangwaylaw20.ShellWords'. -/
def shellWordsCard : Claim7 := { stood := { row := shellWordsRow, standIns := [], harness := (true, "a723b39ff57829694ed9a7c66865c789591a5f13efdff6b9f6b86537aa62ee6c"), looks := true }, kinds := [], alts := [], laidByText := true, laidKinds := [.data, .data, .data, .data, .pinned], laidTests := true, laidLooks := .later }
def ShellWordsCardSaid : Prop := Claim7.holds Tryz.pinned (.plain (OpenSpec.ofChange shellWordsSpec)) shellWordsCard

/-- THE TIED CARD OF 'gangwaylaw20.ShellPure'. -/
def shellPureCard : Claim7 := { stood := { row := shellPureRow, standIns := [], harness := (true, "a723b39ff57829694ed9a7c66865c789591a5f13efdff6b9f6b86537aa62ee6c"), looks := true }, kinds := [], alts := [], laidByText := true, laidKinds := [.data, .data, .data, .data, .pinned], laidTests := true, laidLooks := .later }
def ShellPureCardSaid : Prop := Claim7.holds Tryz.pinned (.plain (OpenSpec.ofChange shellPureSpec)) shellPureCard

/-- THE TIED CARD OF 'gangwaylaw20.ShellUsers'. -/
def shellUsersCard : Claim7 := { stood := { row := shellUsersRow, standIns := [], harness := (true, "a723b39ff57829694ed9a7c66865c789591a5f13efdff6b9f6b86537aa62ee6c"), looks := true }, kinds := [], alts := [], laidByText := true, laidKinds := [.data, .data, .data, .data, .pinned], laidTests := true, laidLooks := .later }
def ShellUsersCardSaid : Prop := Claim7.holds Tryz.pinned (.plain (OpenSpec.ofChange shellUsersSpec)) shellUsersCard

/-- THE TIED CARD OF 'gangwaylaw20.ShellEcho'. -/
def shellEchoCard : Claim7 := { stood := { row := shellEchoRow, standIns := [], harness := (true, "a723b39ff57829694ed9a7c66865c789591a5f13efdff6b9f6b86537aa62ee6c"), looks := true }, kinds := [], alts := [], laidByText := true, laidKinds := [.data, .data, .data, .data, .pinned], laidTests := true, laidLooks := .later }
def ShellEchoCardSaid : Prop := Claim7.holds Tryz.pinned (.plain (OpenSpec.ofChange shellEchoSpec)) shellEchoCard

/-- THE TIED CARD OF 'gangwaylaw23.RcpSources'. -/
def rcpSourcesCard : Claim7 := { stood := { row := rcpSourcesRow, standIns := [], harness := (true, "a723b39ff57829694ed9a7c66865c789591a5f13efdff6b9f6b86537aa62ee6c"), looks := true }, kinds := [], alts := [], laidByText := true, laidKinds := [.data, .data, .data, .data, .pinned], laidTests := true, laidLooks := .later }
def RcpSourcesCardSaid : Prop := Claim7.holds Tryz.pinned (.plain (OpenSpec.ofChange rcpSourcesSpec)) rcpSourcesCard

/-- THE TIED CARD OF 'gangwaylaw23.RcpCopies'. -/
def rcpCopiesCard : Claim7 := { stood := { row := rcpCopiesRow, standIns := [], harness := (true, "a723b39ff57829694ed9a7c66865c789591a5f13efdff6b9f6b86537aa62ee6c"), looks := true }, kinds := [], alts := [], laidByText := true, laidKinds := [.data, .data, .data, .data, .sentinel, .sentinel, .pinned], laidTests := true, laidLooks := .later }
def RcpCopiesCardSaid : Prop := Claim7.holds Tryz.pinned (.plain (OpenSpec.ofChange rcpCopiesSpec)) rcpCopiesCard

/-- THE TIED CARD OF 'gangwaylaw23.RcpInside'. -/
def rcpInsideCard : Claim7 := { stood := { row := rcpInsideRow, standIns := [], harness := (true, "a723b39ff57829694ed9a7c66865c789591a5f13efdff6b9f6b86537aa62ee6c"), looks := true }, kinds := [], alts := [], laidByText := true, laidKinds := [.data, .data, .data, .data, .sentinel, .sentinel, .pinned], laidTests := true, laidLooks := .later }
def RcpInsideCardSaid : Prop := Claim7.holds Tryz.pinned (.plain (OpenSpec.ofChange rcpInsideSpec)) rcpInsideCard

/-- THE TIED CARD OF 'gangwaylaw23.RcpTwice'. -/
def rcpTwiceCard : Claim7 := { stood := { row := rcpTwiceRow, standIns := [], harness := (true, "a723b39ff57829694ed9a7c66865c789591a5f13efdff6b9f6b86537aa62ee6c"), looks := true }, kinds := [], alts := [], laidByText := true, laidKinds := [.data, .data, .data, .data, .sentinel, .sentinel, .pinned], laidTests := true, laidLooks := .later }
def RcpTwiceCardSaid : Prop := Claim7.holds Tryz.pinned (.plain (OpenSpec.ofChange rcpTwiceSpec)) rcpTwiceCard

/-- THE TIED CARD OF 'gangwaylaw23.RcpOver'. -/
def rcpOverCard : Claim7 := { stood := { row := rcpOverRow, standIns := [], harness := (true, "a723b39ff57829694ed9a7c66865c789591a5f13efdff6b9f6b86537aa62ee6c"), looks := true }, kinds := [], alts := [], laidByText := true, laidKinds := [.data, .data, .data, .data, .sentinel, .sentinel, .pinned], laidTests := true, laidLooks := .later }
def RcpOverCardSaid : Prop := Claim7.holds Tryz.pinned (.plain (OpenSpec.ofChange rcpOverSpec)) rcpOverCard

/-- THE SECOND FORM's CARD OF 'gangwaylaw19.TreePlays'. -/
def treePlaysUptoCard : Claim7 := { stood := { row := treePlaysUptoRow, standIns := [], harness := (true, "a723b39ff57829694ed9a7c66865c789591a5f13efdff6b9f6b86537aa62ee6c"), looks := true }, kinds := [], alts := [], laidByText := true, laidKinds := [.data, .pinned], laidTests := true, laidLooks := .later }
def TreePlaysUptoCardSaid : Prop := Claim7.holds Tryz.pinned (.plain (OpenSpec.upto treePlaysSpec)) treePlaysUptoCard

/-- THE SECOND FORM's CARD OF 'gangwaylaw20.ShellWords'. -/
def shellWordsUptoCard : Claim7 := { stood := { row := shellWordsUptoRow, standIns := [], harness := (true, "a723b39ff57829694ed9a7c66865c789591a5f13efdff6b9f6b86537aa62ee6c"), looks := true }, kinds := [], alts := [], laidByText := true, laidKinds := [.data, .data, .data, .data, .pinned], laidTests := true, laidLooks := .later }
def ShellWordsUptoCardSaid : Prop := Claim7.holds Tryz.pinned (.plain (OpenSpec.upto shellWordsSpec)) shellWordsUptoCard

/-- THE SECOND FORM's CARD OF 'gangwaylaw20.ShellPure'. -/
def shellPureUptoCard : Claim7 := { stood := { row := shellPureUptoRow, standIns := [], harness := (true, "a723b39ff57829694ed9a7c66865c789591a5f13efdff6b9f6b86537aa62ee6c"), looks := true }, kinds := [], alts := [], laidByText := true, laidKinds := [.data, .data, .data, .data, .pinned], laidTests := true, laidLooks := .later }
def ShellPureUptoCardSaid : Prop := Claim7.holds Tryz.pinned (.plain (OpenSpec.upto shellPureSpec)) shellPureUptoCard

/-- THE SECOND FORM's CARD OF 'gangwaylaw20.ShellUsers'. -/
def shellUsersUptoCard : Claim7 := { stood := { row := shellUsersUptoRow, standIns := [], harness := (true, "a723b39ff57829694ed9a7c66865c789591a5f13efdff6b9f6b86537aa62ee6c"), looks := true }, kinds := [], alts := [], laidByText := true, laidKinds := [.data, .data, .data, .data, .pinned], laidTests := true, laidLooks := .later }
def ShellUsersUptoCardSaid : Prop := Claim7.holds Tryz.pinned (.plain (OpenSpec.upto shellUsersSpec)) shellUsersUptoCard

/-- THE SECOND FORM's CARD OF 'gangwaylaw20.ShellEcho'. -/
def shellEchoUptoCard : Claim7 := { stood := { row := shellEchoUptoRow, standIns := [], harness := (true, "a723b39ff57829694ed9a7c66865c789591a5f13efdff6b9f6b86537aa62ee6c"), looks := true }, kinds := [], alts := [], laidByText := true, laidKinds := [.data, .data, .data, .data, .pinned], laidTests := true, laidLooks := .later }
def ShellEchoUptoCardSaid : Prop := Claim7.holds Tryz.pinned (.plain (OpenSpec.upto shellEchoSpec)) shellEchoUptoCard

/-- THE SECOND FORM's CARD OF 'gangwaylaw23.RcpSources'. -/
def rcpSourcesUptoCard : Claim7 := { stood := { row := rcpSourcesUptoRow, standIns := [], harness := (true, "a723b39ff57829694ed9a7c66865c789591a5f13efdff6b9f6b86537aa62ee6c"), looks := true }, kinds := [], alts := [], laidByText := true, laidKinds := [.data, .data, .data, .data, .pinned], laidTests := true, laidLooks := .later }
def RcpSourcesUptoCardSaid : Prop := Claim7.holds Tryz.pinned (.plain (OpenSpec.upto rcpSourcesSpec)) rcpSourcesUptoCard

/-- THE SECOND FORM's CARD OF 'gangwaylaw23.RcpCopies'. -/
def rcpCopiesUptoCard : Claim7 := { stood := { row := rcpCopiesUptoRow, standIns := [], harness := (true, "a723b39ff57829694ed9a7c66865c789591a5f13efdff6b9f6b86537aa62ee6c"), looks := true }, kinds := [], alts := [], laidByText := true, laidKinds := [.data, .data, .data, .data, .sentinel, .sentinel, .pinned], laidTests := true, laidLooks := .later }
def RcpCopiesUptoCardSaid : Prop := Claim7.holds Tryz.pinned (.plain (OpenSpec.upto rcpCopiesSpec)) rcpCopiesUptoCard

/-- THE SECOND FORM's CARD OF 'gangwaylaw23.RcpInside'. -/
def rcpInsideUptoCard : Claim7 := { stood := { row := rcpInsideUptoRow, standIns := [], harness := (true, "a723b39ff57829694ed9a7c66865c789591a5f13efdff6b9f6b86537aa62ee6c"), looks := true }, kinds := [], alts := [], laidByText := true, laidKinds := [.data, .data, .data, .data, .sentinel, .sentinel, .pinned], laidTests := true, laidLooks := .later }
def RcpInsideUptoCardSaid : Prop := Claim7.holds Tryz.pinned (.plain (OpenSpec.upto rcpInsideSpec)) rcpInsideUptoCard

/-- THE SECOND FORM's CARD OF 'gangwaylaw23.RcpTwice'. -/
def rcpTwiceUptoCard : Claim7 := { stood := { row := rcpTwiceUptoRow, standIns := [], harness := (true, "a723b39ff57829694ed9a7c66865c789591a5f13efdff6b9f6b86537aa62ee6c"), looks := true }, kinds := [], alts := [], laidByText := true, laidKinds := [.data, .data, .data, .data, .sentinel, .sentinel, .pinned], laidTests := true, laidLooks := .later }
def RcpTwiceUptoCardSaid : Prop := Claim7.holds Tryz.pinned (.plain (OpenSpec.upto rcpTwiceSpec)) rcpTwiceUptoCard

/-- THE SECOND FORM's CARD OF 'gangwaylaw23.RcpOver'. -/
def rcpOverUptoCard : Claim7 := { stood := { row := rcpOverUptoRow, standIns := [], harness := (true, "a723b39ff57829694ed9a7c66865c789591a5f13efdff6b9f6b86537aa62ee6c"), looks := true }, kinds := [], alts := [], laidByText := true, laidKinds := [.data, .data, .data, .data, .sentinel, .sentinel, .pinned], laidTests := true, laidLooks := .later }
def RcpOverUptoCardSaid : Prop := Claim7.holds Tryz.pinned (.plain (OpenSpec.upto rcpOverSpec)) rcpOverUptoCard
end Rows
end Go.Proofs.YtlkchajkhplapaaGreatDoor
