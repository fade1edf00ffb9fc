/-
  NARROWER THAN 'FOR EVERY INPUT', by the rows' own cells (each row's printed sentence says how): TicketWrites: laid · TicketAuths: laid · TicketGrants: laid · TicketValid: laid · TicketKinds: laid · TicketCuts: laid · TicketLasts: laid.
  DERIVED. THE GIVEN ROWS OF THIS SEAT. 7 by the template 'for every input the law returns true; each argument reads behind the call as it read before'; 0 by the template 'total and deterministic' (their statements: YtdgmkpnaopmegaaDoorTotals.lean).
  GIVEN WITH THE SEED: the statements are not yours to turn. If you find one false, say at which input.
  Laid BY PROGRAM, IN A SANDBOX (cutbox-rows.mjs): the forced cells as the released guide's own fill.sh prints them over the translation cd02dd8a997fe6d1… (all of the seat's roots in one cut). By AI agents, Wed Nov 11 2026. No macro, syntax, notation, axiom, sorry.
-/
import Derived.Test.YtdgmkpnaopmegaaDoorChecked
import GoSem.PinnedTables
import GoSem.Claim
import GoSem.ClaimJoined
import GoSem.ClaimMapViews
import Derived.JoinedTies
import Derived.KernelRfl
namespace Go.Proofs.YtdgmkpnaopmegaaDoor
/- THE CELL 'sum', in the pinned program and in every row, IS THE sha256 OF THE DUMP (.gsa) THAT YtdgmkpnaopmegaaDoorProg.lean LOADS. Nothing in Lean hashes anything: it is a label: what it is worth is what the hold of that sum in a sandbox is worth. -/
noncomputable def Tryd.pinned : Pinned := { name := "ytdgmkpnaopmegaadoor", sum := "cd02dd8a997fe6d1df371ce0e2a5648c6159eb5e3f026bc3c262b9234ee2b2a0", checked := Tryd.checked }
namespace Rows
def none {H : Type} : Left H := { results := [], args := [] }

/- WHAT THE LISTED PACKAGE-LEVEL VARIABLES READ AS WHEN THE CALL BEGINS. Each datum BY PROGRAM (the guide's laid-datum.mjs) off the statement by which the dump's own 'gosem.cut.vars' lays the variable. In a bare row this is a premise. The card (YtdgmkpnaopmegaaDoorCards.lean) ties it to the program's text. -/
def laid_unicode_utf8_acceptRanges {H : Type} : DataW H := .agg [.agg [.lit (.int .u8 128), .lit (.int .u8 191)], .agg [.lit (.int .u8 160), .lit (.int .u8 191)], .agg [.lit (.int .u8 128), .lit (.int .u8 159)], .agg [.lit (.int .u8 144), .lit (.int .u8 191)], .agg [.lit (.int .u8 128), .lit (.int .u8 143)], .agg [.lit (.int .u8 0), .lit (.int .u8 0)], .agg [.lit (.int .u8 0), .lit (.int .u8 0)], .agg [.lit (.int .u8 0), .lit (.int .u8 0)], .agg [.lit (.int .u8 0), .lit (.int .u8 0)], .agg [.lit (.int .u8 0), .lit (.int .u8 0)], .agg [.lit (.int .u8 0), .lit (.int .u8 0)], .agg [.lit (.int .u8 0), .lit (.int .u8 0)], .agg [.lit (.int .u8 0), .lit (.int .u8 0)], .agg [.lit (.int .u8 0), .lit (.int .u8 0)], .agg [.lit (.int .u8 0), .lit (.int .u8 0)], .agg [.lit (.int .u8 0), .lit (.int .u8 0)]]
/-- One of Go's own tables, pinned by name: the form's constant. -/
def laid_unicode_utf8_first : DataW Unit := Go.Pinned.utf8First

/-- 'gangwaylaw07.TicketWrites': WHATEVER THE INPUT: true; the input reads as it did. -/
def ticketWritesSpec : ChangeSpec := { name := "ticketWrites", fn := fun _ => fun
  | [d1, d2] => { results := [.lit (.bool true)], args := [d1, d2] }
  | _ => none }
def ticketWritesRow : OpenClaim := { program := "ytdgmkpnaopmegaadoor", sum := "cd02dd8a997fe6d1df371ce0e2a5648c6159eb5e3f026bc3c262b9234ee2b2a0", func := "gangway/gangwaylaw07.TicketWrites", spec := "ticketWrites", inPlace := ["internal/bytealg.IndexByteString", "internal/bytealg.IndexString", "internal/bytealg.CountString"], unfollowed := true, recurses := true, named := ["internal/bytealg.MaxLen", "unicode/utf8.first", "unicode/utf8.acceptRanges"], apart := false, laid := [("unicode/utf8.acceptRanges", laid_unicode_utf8_acceptRanges), ("unicode/utf8.first", laid_unicode_utf8_first)] }
def TicketWritesSaid : Prop := ticketWritesRow.holds Tryd.pinned (OpenSpec.ofChange ticketWritesSpec)

/-- ITS FALSE NEIGHBOUR: 'it returns false'. Refute it at one input. -/
def ticketWritesWrong : ChangeSpec := { name := "ticketWrites", fn := fun _ => fun
  | [d1, d2] => { results := [.lit (.bool false)], args := [d1, d2] }
  | _ => none }
def TicketWritesWrongFalsely : Prop := ticketWritesRow.holds Tryd.pinned (OpenSpec.ofChange ticketWritesWrong)

/-- 'gangwaylaw07.TicketAuths': WHATEVER THE INPUT: true; the input reads as it did. -/
def ticketAuthsSpec : ChangeSpec := { name := "ticketAuths", fn := fun _ => fun
  | [d1, d2] => { results := [.lit (.bool true)], args := [d1, d2] }
  | _ => none }
def ticketAuthsRow : OpenClaim := { program := "ytdgmkpnaopmegaadoor", sum := "cd02dd8a997fe6d1df371ce0e2a5648c6159eb5e3f026bc3c262b9234ee2b2a0", func := "gangway/gangwaylaw07.TicketAuths", spec := "ticketAuths", inPlace := ["internal/bytealg.IndexByteString", "internal/bytealg.IndexString", "internal/bytealg.CountString"], unfollowed := true, recurses := true, named := ["internal/bytealg.MaxLen", "unicode/utf8.first", "unicode/utf8.acceptRanges"], apart := false, laid := [("unicode/utf8.acceptRanges", laid_unicode_utf8_acceptRanges), ("unicode/utf8.first", laid_unicode_utf8_first)] }
def TicketAuthsSaid : Prop := ticketAuthsRow.holds Tryd.pinned (OpenSpec.ofChange ticketAuthsSpec)

/-- ITS FALSE NEIGHBOUR: 'it returns false'. Refute it at one input. -/
def ticketAuthsWrong : ChangeSpec := { name := "ticketAuths", fn := fun _ => fun
  | [d1, d2] => { results := [.lit (.bool false)], args := [d1, d2] }
  | _ => none }
def TicketAuthsWrongFalsely : Prop := ticketAuthsRow.holds Tryd.pinned (OpenSpec.ofChange ticketAuthsWrong)

/-- 'gangwaylaw07.TicketGrants': WHATEVER THE INPUT: true; the input reads as it did. -/
def ticketGrantsSpec : ChangeSpec := { name := "ticketGrants", fn := fun _ => fun
  | [d1, d2] => { results := [.lit (.bool true)], args := [d1, d2] }
  | _ => none }
def ticketGrantsRow : OpenClaim := { program := "ytdgmkpnaopmegaadoor", sum := "cd02dd8a997fe6d1df371ce0e2a5648c6159eb5e3f026bc3c262b9234ee2b2a0", func := "gangway/gangwaylaw07.TicketGrants", spec := "ticketGrants", inPlace := ["internal/bytealg.IndexByteString", "internal/bytealg.IndexString", "internal/bytealg.CountString"], unfollowed := true, recurses := true, named := ["internal/bytealg.MaxLen", "unicode/utf8.first", "unicode/utf8.acceptRanges"], apart := false, laid := [("unicode/utf8.acceptRanges", laid_unicode_utf8_acceptRanges), ("unicode/utf8.first", laid_unicode_utf8_first)] }
def TicketGrantsSaid : Prop := ticketGrantsRow.holds Tryd.pinned (OpenSpec.ofChange ticketGrantsSpec)

/-- ITS FALSE NEIGHBOUR: 'it returns false'. Refute it at one input. -/
def ticketGrantsWrong : ChangeSpec := { name := "ticketGrants", fn := fun _ => fun
  | [d1, d2] => { results := [.lit (.bool false)], args := [d1, d2] }
  | _ => none }
def TicketGrantsWrongFalsely : Prop := ticketGrantsRow.holds Tryd.pinned (OpenSpec.ofChange ticketGrantsWrong)

/-- 'gangwaylaw07.TicketValid': WHATEVER THE INPUT: true; the input reads as it did. -/
def ticketValidSpec : ChangeSpec := { name := "ticketValid", fn := fun _ => fun
  | [d1, d2, d3] => { results := [.lit (.bool true)], args := [d1, d2, d3] }
  | _ => none }
def ticketValidRow : OpenClaim := { program := "ytdgmkpnaopmegaadoor", sum := "cd02dd8a997fe6d1df371ce0e2a5648c6159eb5e3f026bc3c262b9234ee2b2a0", func := "gangway/gangwaylaw07.TicketValid", spec := "ticketValid", inPlace := ["internal/bytealg.IndexByteString", "internal/bytealg.IndexString", "internal/bytealg.CountString"], named := ["internal/bytealg.MaxLen", "unicode/utf8.first", "unicode/utf8.acceptRanges"], apart := false, laid := [("unicode/utf8.acceptRanges", laid_unicode_utf8_acceptRanges), ("unicode/utf8.first", laid_unicode_utf8_first)] }
def TicketValidSaid : Prop := ticketValidRow.holds Tryd.pinned (OpenSpec.ofChange ticketValidSpec)

/-- ITS FALSE NEIGHBOUR: 'it returns false'. Refute it at one input. -/
def ticketValidWrong : ChangeSpec := { name := "ticketValid", fn := fun _ => fun
  | [d1, d2, d3] => { results := [.lit (.bool false)], args := [d1, d2, d3] }
  | _ => none }
def TicketValidWrongFalsely : Prop := ticketValidRow.holds Tryd.pinned (OpenSpec.ofChange ticketValidWrong)

/-- 'gangwaylaw07.TicketKinds': WHATEVER THE INPUT: true; the input reads as it did. -/
def ticketKindsSpec : ChangeSpec := { name := "ticketKinds", fn := fun _ => fun
  | [d1, d2, d3] => { results := [.lit (.bool true)], args := [d1, d2, d3] }
  | _ => none }
def ticketKindsRow : OpenClaim := { program := "ytdgmkpnaopmegaadoor", sum := "cd02dd8a997fe6d1df371ce0e2a5648c6159eb5e3f026bc3c262b9234ee2b2a0", func := "gangway/gangwaylaw07.TicketKinds", spec := "ticketKinds", inPlace := ["internal/bytealg.IndexByteString", "internal/bytealg.IndexString", "internal/bytealg.CountString"], unfollowed := true, recurses := true, named := ["internal/bytealg.MaxLen", "unicode/utf8.first", "unicode/utf8.acceptRanges"], apart := false, laid := [("unicode/utf8.acceptRanges", laid_unicode_utf8_acceptRanges), ("unicode/utf8.first", laid_unicode_utf8_first)] }
def TicketKindsSaid : Prop := ticketKindsRow.holds Tryd.pinned (OpenSpec.ofChange ticketKindsSpec)

/-- ITS FALSE NEIGHBOUR: 'it returns false'. Refute it at one input. -/
def ticketKindsWrong : ChangeSpec := { name := "ticketKinds", fn := fun _ => fun
  | [d1, d2, d3] => { results := [.lit (.bool false)], args := [d1, d2, d3] }
  | _ => none }
def TicketKindsWrongFalsely : Prop := ticketKindsRow.holds Tryd.pinned (OpenSpec.ofChange ticketKindsWrong)

/-- 'gangwaylaw07.TicketCuts': WHATEVER THE INPUT: true; the input reads as it did. -/
def ticketCutsSpec : ChangeSpec := { name := "ticketCuts", fn := fun _ => fun
  | [d1, d2, d3] => { results := [.lit (.bool true)], args := [d1, d2, d3] }
  | _ => none }
def ticketCutsRow : OpenClaim := { program := "ytdgmkpnaopmegaadoor", sum := "cd02dd8a997fe6d1df371ce0e2a5648c6159eb5e3f026bc3c262b9234ee2b2a0", func := "gangway/gangwaylaw07.TicketCuts", spec := "ticketCuts", inPlace := ["internal/bytealg.IndexByteString", "internal/bytealg.IndexString", "internal/bytealg.CountString"], unfollowed := true, recurses := true, named := ["internal/bytealg.MaxLen", "unicode/utf8.first", "unicode/utf8.acceptRanges"], apart := false, laid := [("unicode/utf8.acceptRanges", laid_unicode_utf8_acceptRanges), ("unicode/utf8.first", laid_unicode_utf8_first)] }
def TicketCutsSaid : Prop := ticketCutsRow.holds Tryd.pinned (OpenSpec.ofChange ticketCutsSpec)

/-- ITS FALSE NEIGHBOUR: 'it returns false'. Refute it at one input. -/
def ticketCutsWrong : ChangeSpec := { name := "ticketCuts", fn := fun _ => fun
  | [d1, d2, d3] => { results := [.lit (.bool false)], args := [d1, d2, d3] }
  | _ => none }
def TicketCutsWrongFalsely : Prop := ticketCutsRow.holds Tryd.pinned (OpenSpec.ofChange ticketCutsWrong)

/-- 'gangwaylaw07.TicketLasts': WHATEVER THE INPUT: true; the input reads as it did. -/
def ticketLastsSpec : ChangeSpec := { name := "ticketLasts", fn := fun _ => fun
  | [d1, d2, d3] => { results := [.lit (.bool true)], args := [d1, d2, d3] }
  | _ => none }
def ticketLastsRow : OpenClaim := { program := "ytdgmkpnaopmegaadoor", sum := "cd02dd8a997fe6d1df371ce0e2a5648c6159eb5e3f026bc3c262b9234ee2b2a0", func := "gangway/gangwaylaw07.TicketLasts", spec := "ticketLasts", inPlace := ["internal/bytealg.IndexByteString", "internal/bytealg.IndexString", "internal/bytealg.CountString"], named := ["internal/bytealg.MaxLen", "unicode/utf8.first", "unicode/utf8.acceptRanges"], apart := false, laid := [("unicode/utf8.acceptRanges", laid_unicode_utf8_acceptRanges), ("unicode/utf8.first", laid_unicode_utf8_first)] }
def TicketLastsSaid : Prop := ticketLastsRow.holds Tryd.pinned (OpenSpec.ofChange ticketLastsSpec)

/-- ITS FALSE NEIGHBOUR: 'it returns false'. Refute it at one input. -/
def ticketLastsWrong : ChangeSpec := { name := "ticketLasts", fn := fun _ => fun
  | [d1, d2, d3] => { results := [.lit (.bool false)], args := [d1, d2, d3] }
  | _ => none }
def TicketLastsWrongFalsely : Prop := ticketLastsRow.holds Tryd.pinned (OpenSpec.ofChange ticketLastsWrong)

/- THE SECOND FORM. 'bulk': how many values and letters a reading holds, each counted each time it is reached (what is shared counts as often as it is met; a slice's spare places count too). A statement '..UptoSaid' is the law's where the arguments, and the package variables that the reading takes, are together of bulk at most 1048576: NARROWER than '..Said'. Prove '..Said' where nothing that the law and all that it calls make is longer than what came in: it says more and counts as full. Else prove '..UptoSaid'. A law counts once. -/
mutual
def uptoBulk {H : Type} : DataW H → Nat
  | .lit (.string bytes) => bytes.length + 1
  | .lit _ => 1
  | .nil => 1
  | .ptr d => uptoBulk d + 1
  | .slice elems spare => uptoBulkAll elems + uptoBulkAll spare + 1
  | .agg parts => uptoBulkAll parts + 1
  | .iface _ d => uptoBulk d + 1
  | .map entries => uptoBulkEntries entries + 1
  | .held _ => 1
def uptoBulkAll {H : Type} : List (DataW H) → Nat
  | [] => 0
  | d :: r => uptoBulk d + uptoBulkAll r
def uptoBulkEntries {H : Type} : List (Lit × DataW H) → Nat
  | [] => 0
  | x :: r => uptoBulkEntry x + uptoBulkEntries r
def uptoBulkEntry {H : Type} : Lit × DataW H → Nat
  | (.string bytes, d) => bytes.length + uptoBulk d + 1
  | (_, d) => uptoBulk d + 1
 end
def uptoSmall : (H : Type) → List (DataW H) → Bool := fun _ ds => decide (uptoBulkAll ds ≤ 1048576)
def OpenSpec.upto (s : _root_.Go.ChangeSpec) : _root_.Go.OpenSpec := { _root_.Go.OpenSpec.ofChange s with cond := some uptoSmall }

/-- 'gangwaylaw07.TicketWrites', WHERE WHAT IT READS IS OF BULK AT MOST 1048576: true; the input reads as it did. -/
def ticketWritesUptoRow : OpenClaim := { program := "ytdgmkpnaopmegaadoor", sum := "cd02dd8a997fe6d1df371ce0e2a5648c6159eb5e3f026bc3c262b9234ee2b2a0", func := "gangway/gangwaylaw07.TicketWrites", spec := "ticketWrites", inPlace := ["internal/bytealg.IndexByteString", "internal/bytealg.IndexString", "internal/bytealg.CountString"], unfollowed := true, recurses := true, named := ["internal/bytealg.MaxLen", "unicode/utf8.first", "unicode/utf8.acceptRanges"], apart := false, laid := [("unicode/utf8.acceptRanges", laid_unicode_utf8_acceptRanges), ("unicode/utf8.first", laid_unicode_utf8_first)], narrowed := true }
def TicketWritesUptoSaid : Prop := ticketWritesUptoRow.holds Tryd.pinned (OpenSpec.upto ticketWritesSpec)

/-- 'gangwaylaw07.TicketAuths', WHERE WHAT IT READS IS OF BULK AT MOST 1048576: true; the input reads as it did. -/
def ticketAuthsUptoRow : OpenClaim := { program := "ytdgmkpnaopmegaadoor", sum := "cd02dd8a997fe6d1df371ce0e2a5648c6159eb5e3f026bc3c262b9234ee2b2a0", func := "gangway/gangwaylaw07.TicketAuths", spec := "ticketAuths", inPlace := ["internal/bytealg.IndexByteString", "internal/bytealg.IndexString", "internal/bytealg.CountString"], unfollowed := true, recurses := true, named := ["internal/bytealg.MaxLen", "unicode/utf8.first", "unicode/utf8.acceptRanges"], apart := false, laid := [("unicode/utf8.acceptRanges", laid_unicode_utf8_acceptRanges), ("unicode/utf8.first", laid_unicode_utf8_first)], narrowed := true }
def TicketAuthsUptoSaid : Prop := ticketAuthsUptoRow.holds Tryd.pinned (OpenSpec.upto ticketAuthsSpec)

/-- 'gangwaylaw07.TicketGrants', WHERE WHAT IT READS IS OF BULK AT MOST 1048576: true; the input reads as it did. -/
def ticketGrantsUptoRow : OpenClaim := { program := "ytdgmkpnaopmegaadoor", sum := "cd02dd8a997fe6d1df371ce0e2a5648c6159eb5e3f026bc3c262b9234ee2b2a0", func := "gangway/gangwaylaw07.TicketGrants", spec := "ticketGrants", inPlace := ["internal/bytealg.IndexByteString", "internal/bytealg.IndexString", "internal/bytealg.CountString"], unfollowed := true, recurses := true, named := ["internal/bytealg.MaxLen", "unicode/utf8.first", "unicode/utf8.acceptRanges"], apart := false, laid := [("unicode/utf8.acceptRanges", laid_unicode_utf8_acceptRanges), ("unicode/utf8.first", laid_unicode_utf8_first)], narrowed := true }
def TicketGrantsUptoSaid : Prop := ticketGrantsUptoRow.holds Tryd.pinned (OpenSpec.upto ticketGrantsSpec)

/-- 'gangwaylaw07.TicketValid', WHERE WHAT IT READS IS OF BULK AT MOST 1048576: true; the input reads as it did. -/
def ticketValidUptoRow : OpenClaim := { program := "ytdgmkpnaopmegaadoor", sum := "cd02dd8a997fe6d1df371ce0e2a5648c6159eb5e3f026bc3c262b9234ee2b2a0", func := "gangway/gangwaylaw07.TicketValid", spec := "ticketValid", inPlace := ["internal/bytealg.IndexByteString", "internal/bytealg.IndexString", "internal/bytealg.CountString"], named := ["internal/bytealg.MaxLen", "unicode/utf8.first", "unicode/utf8.acceptRanges"], apart := false, laid := [("unicode/utf8.acceptRanges", laid_unicode_utf8_acceptRanges), ("unicode/utf8.first", laid_unicode_utf8_first)], narrowed := true }
def TicketValidUptoSaid : Prop := ticketValidUptoRow.holds Tryd.pinned (OpenSpec.upto ticketValidSpec)

/-- 'gangwaylaw07.TicketKinds', WHERE WHAT IT READS IS OF BULK AT MOST 1048576: true; the input reads as it did. -/
def ticketKindsUptoRow : OpenClaim := { program := "ytdgmkpnaopmegaadoor", sum := "cd02dd8a997fe6d1df371ce0e2a5648c6159eb5e3f026bc3c262b9234ee2b2a0", func := "gangway/gangwaylaw07.TicketKinds", spec := "ticketKinds", inPlace := ["internal/bytealg.IndexByteString", "internal/bytealg.IndexString", "internal/bytealg.CountString"], unfollowed := true, recurses := true, named := ["internal/bytealg.MaxLen", "unicode/utf8.first", "unicode/utf8.acceptRanges"], apart := false, laid := [("unicode/utf8.acceptRanges", laid_unicode_utf8_acceptRanges), ("unicode/utf8.first", laid_unicode_utf8_first)], narrowed := true }
def TicketKindsUptoSaid : Prop := ticketKindsUptoRow.holds Tryd.pinned (OpenSpec.upto ticketKindsSpec)

/-- 'gangwaylaw07.TicketCuts', WHERE WHAT IT READS IS OF BULK AT MOST 1048576: true; the input reads as it did. -/
def ticketCutsUptoRow : OpenClaim := { program := "ytdgmkpnaopmegaadoor", sum := "cd02dd8a997fe6d1df371ce0e2a5648c6159eb5e3f026bc3c262b9234ee2b2a0", func := "gangway/gangwaylaw07.TicketCuts", spec := "ticketCuts", inPlace := ["internal/bytealg.IndexByteString", "internal/bytealg.IndexString", "internal/bytealg.CountString"], unfollowed := true, recurses := true, named := ["internal/bytealg.MaxLen", "unicode/utf8.first", "unicode/utf8.acceptRanges"], apart := false, laid := [("unicode/utf8.acceptRanges", laid_unicode_utf8_acceptRanges), ("unicode/utf8.first", laid_unicode_utf8_first)], narrowed := true }
def TicketCutsUptoSaid : Prop := ticketCutsUptoRow.holds Tryd.pinned (OpenSpec.upto ticketCutsSpec)

/-- 'gangwaylaw07.TicketLasts', WHERE WHAT IT READS IS OF BULK AT MOST 1048576: true; the input reads as it did. -/
def ticketLastsUptoRow : OpenClaim := { program := "ytdgmkpnaopmegaadoor", sum := "cd02dd8a997fe6d1df371ce0e2a5648c6159eb5e3f026bc3c262b9234ee2b2a0", func := "gangway/gangwaylaw07.TicketLasts", spec := "ticketLasts", inPlace := ["internal/bytealg.IndexByteString", "internal/bytealg.IndexString", "internal/bytealg.CountString"], named := ["internal/bytealg.MaxLen", "unicode/utf8.first", "unicode/utf8.acceptRanges"], apart := false, laid := [("unicode/utf8.acceptRanges", laid_unicode_utf8_acceptRanges), ("unicode/utf8.first", laid_unicode_utf8_first)], narrowed := true }
def TicketLastsUptoSaid : Prop := ticketLastsUptoRow.holds Tryd.pinned (OpenSpec.upto ticketLastsSpec)

end Rows
end Go.Proofs.YtdgmkpnaopmegaaDoor
