/-
  NARROWER THAN 'FOR EVERY INPUT', by the rows' own cells (each row's printed sentence says how): TicketWrites: laid · TicketAuths: laid · TicketGrants: laid · KrbNames: laid · KrbWrites: laid · KrbReads: laid · KrbApart: laid · KrbCuts: laid · KrbBare: laid · BasePlays: laid · BaseLast: laid · BaseFull: laid.
  DERIVED. THE GIVEN ROWS OF THIS SEAT. 12 by the template 'for every input the law returns true; each argument reads behind the call as it read before'; 0 by the template 'total and deterministic' (their statements: YtnaoagiphehcaaaDoorTotals.lean).
  GIVEN WITH THE SEED: the statements are not yours to turn. If you find one false, say at which input.
  Laid BY PROGRAM, IN A SANDBOX (cutbox-rows.mjs): the forced cells as the released guide's own fill.sh prints them over the translation b10073320988cc91… (all of the seat's roots in one cut). By AI agents, Wed Nov 11 2026. No macro, syntax, notation, axiom, sorry.
-/
import Derived.Test.YtnaoagiphehcaaaDoorChecked
import GoSem.PinnedTables
import GoSem.Claim
import GoSem.ClaimJoined
import GoSem.ClaimMapViews
import Derived.JoinedTies
import Derived.KernelRfl
namespace Go.Proofs.YtnaoagiphehcaaaDoor
/- THE CELL 'sum', in the pinned program and in every row, IS THE sha256 OF THE DUMP (.gsa) THAT YtnaoagiphehcaaaDoorProg.lean LOADS. Nothing in Lean hashes anything: it is a label: what it is worth is what the hold of that sum in a sandbox is worth. -/
noncomputable def Tryd.pinned : Pinned := { name := "ytnaoagiphehcaaadoor", sum := "b10073320988cc91a56018d17e0f526d4c3868499e3c101d65b5e1cd9106a89a", checked := Tryd.checked }
namespace Rows
def none {H : Type} : Left H := { results := [], args := [] }

/- WHAT THE LISTED PACKAGE-LEVEL VARIABLES READ AS WHEN THE CALL BEGINS. Each datum BY PROGRAM (the guide's laid-datum.mjs) off the statement by which the dump's own 'gosem.cut.vars' lays the variable. In a bare row this is a premise. The card (YtnaoagiphehcaaaDoorCards.lean) ties it to the program's text. -/
def laid_unicode_utf8_acceptRanges {H : Type} : DataW H := .agg [.agg [.lit (.int .u8 128), .lit (.int .u8 191)], .agg [.lit (.int .u8 160), .lit (.int .u8 191)], .agg [.lit (.int .u8 128), .lit (.int .u8 159)], .agg [.lit (.int .u8 144), .lit (.int .u8 191)], .agg [.lit (.int .u8 128), .lit (.int .u8 143)], .agg [.lit (.int .u8 0), .lit (.int .u8 0)], .agg [.lit (.int .u8 0), .lit (.int .u8 0)], .agg [.lit (.int .u8 0), .lit (.int .u8 0)], .agg [.lit (.int .u8 0), .lit (.int .u8 0)], .agg [.lit (.int .u8 0), .lit (.int .u8 0)], .agg [.lit (.int .u8 0), .lit (.int .u8 0)], .agg [.lit (.int .u8 0), .lit (.int .u8 0)], .agg [.lit (.int .u8 0), .lit (.int .u8 0)], .agg [.lit (.int .u8 0), .lit (.int .u8 0)], .agg [.lit (.int .u8 0), .lit (.int .u8 0)], .agg [.lit (.int .u8 0), .lit (.int .u8 0)]]
/-- One of Go's own tables, pinned by name: the form's constant. -/
def laid_unicode_utf8_first : DataW Unit := Go.Pinned.utf8First

/-- 'gangwaylaw07.TicketWrites': WHATEVER THE INPUT: true; the input reads as it did. -/
def ticketWritesSpec : ChangeSpec := { name := "ticketWrites", fn := fun _ => fun
  | [d1, d2] => { results := [.lit (.bool true)], args := [d1, d2] }
  | _ => none }
def ticketWritesRow : OpenClaim := { program := "ytnaoagiphehcaaadoor", sum := "b10073320988cc91a56018d17e0f526d4c3868499e3c101d65b5e1cd9106a89a", func := "gangway/gangwaylaw07.TicketWrites", spec := "ticketWrites", inPlace := ["internal/bytealg.IndexByteString", "internal/bytealg.IndexString", "internal/bytealg.CountString"], unfollowed := true, recurses := true, named := ["internal/bytealg.MaxLen", "unicode/utf8.first", "unicode/utf8.acceptRanges"], apart := false, laid := [("unicode/utf8.acceptRanges", laid_unicode_utf8_acceptRanges), ("unicode/utf8.first", laid_unicode_utf8_first)] }
def TicketWritesSaid : Prop := ticketWritesRow.holds Tryd.pinned (OpenSpec.ofChange ticketWritesSpec)

/-- ITS FALSE NEIGHBOUR: 'it returns false'. Refute it at one input. -/
def ticketWritesWrong : ChangeSpec := { name := "ticketWrites", fn := fun _ => fun
  | [d1, d2] => { results := [.lit (.bool false)], args := [d1, d2] }
  | _ => none }
def TicketWritesWrongFalsely : Prop := ticketWritesRow.holds Tryd.pinned (OpenSpec.ofChange ticketWritesWrong)

/-- 'gangwaylaw07.TicketAuths': WHATEVER THE INPUT: true; the input reads as it did. -/
def ticketAuthsSpec : ChangeSpec := { name := "ticketAuths", fn := fun _ => fun
  | [d1, d2] => { results := [.lit (.bool true)], args := [d1, d2] }
  | _ => none }
def ticketAuthsRow : OpenClaim := { program := "ytnaoagiphehcaaadoor", sum := "b10073320988cc91a56018d17e0f526d4c3868499e3c101d65b5e1cd9106a89a", func := "gangway/gangwaylaw07.TicketAuths", spec := "ticketAuths", inPlace := ["internal/bytealg.IndexByteString", "internal/bytealg.IndexString", "internal/bytealg.CountString"], unfollowed := true, recurses := true, named := ["internal/bytealg.MaxLen", "unicode/utf8.first", "unicode/utf8.acceptRanges"], apart := false, laid := [("unicode/utf8.acceptRanges", laid_unicode_utf8_acceptRanges), ("unicode/utf8.first", laid_unicode_utf8_first)] }
def TicketAuthsSaid : Prop := ticketAuthsRow.holds Tryd.pinned (OpenSpec.ofChange ticketAuthsSpec)

/-- ITS FALSE NEIGHBOUR: 'it returns false'. Refute it at one input. -/
def ticketAuthsWrong : ChangeSpec := { name := "ticketAuths", fn := fun _ => fun
  | [d1, d2] => { results := [.lit (.bool false)], args := [d1, d2] }
  | _ => none }
def TicketAuthsWrongFalsely : Prop := ticketAuthsRow.holds Tryd.pinned (OpenSpec.ofChange ticketAuthsWrong)

/-- 'gangwaylaw07.TicketGrants': WHATEVER THE INPUT: true; the input reads as it did. -/
def ticketGrantsSpec : ChangeSpec := { name := "ticketGrants", fn := fun _ => fun
  | [d1, d2] => { results := [.lit (.bool true)], args := [d1, d2] }
  | _ => none }
def ticketGrantsRow : OpenClaim := { program := "ytnaoagiphehcaaadoor", sum := "b10073320988cc91a56018d17e0f526d4c3868499e3c101d65b5e1cd9106a89a", func := "gangway/gangwaylaw07.TicketGrants", spec := "ticketGrants", inPlace := ["internal/bytealg.IndexByteString", "internal/bytealg.IndexString", "internal/bytealg.CountString"], unfollowed := true, recurses := true, named := ["internal/bytealg.MaxLen", "unicode/utf8.first", "unicode/utf8.acceptRanges"], apart := false, laid := [("unicode/utf8.acceptRanges", laid_unicode_utf8_acceptRanges), ("unicode/utf8.first", laid_unicode_utf8_first)] }
def TicketGrantsSaid : Prop := ticketGrantsRow.holds Tryd.pinned (OpenSpec.ofChange ticketGrantsSpec)

/-- ITS FALSE NEIGHBOUR: 'it returns false'. Refute it at one input. -/
def ticketGrantsWrong : ChangeSpec := { name := "ticketGrants", fn := fun _ => fun
  | [d1, d2] => { results := [.lit (.bool false)], args := [d1, d2] }
  | _ => none }
def TicketGrantsWrongFalsely : Prop := ticketGrantsRow.holds Tryd.pinned (OpenSpec.ofChange ticketGrantsWrong)

/-- 'gangwaylaw08.KrbNames': WHATEVER THE INPUT: true; the input reads as it did. -/
def krbNamesSpec : ChangeSpec := { name := "krbNames", fn := fun _ => fun
  | [] => { results := [.lit (.bool true)], args := [] }
  | _ => none }
def krbNamesRow : OpenClaim := { program := "ytnaoagiphehcaaadoor", sum := "b10073320988cc91a56018d17e0f526d4c3868499e3c101d65b5e1cd9106a89a", func := "gangway/gangwaylaw08.KrbNames", spec := "krbNames", inPlace := ["internal/bytealg.IndexByteString", "internal/bytealg.IndexString", "internal/bytealg.CountString"], recurses := true, named := ["internal/bytealg.MaxLen", "unicode/utf8.first", "unicode/utf8.acceptRanges"], apart := false, laid := [("unicode/utf8.acceptRanges", laid_unicode_utf8_acceptRanges), ("unicode/utf8.first", laid_unicode_utf8_first)] }
def KrbNamesSaid : Prop := krbNamesRow.holds Tryd.pinned (OpenSpec.ofChange krbNamesSpec)

/-- ITS FALSE NEIGHBOUR: 'it returns false'. Refute it at one input. -/
def krbNamesWrong : ChangeSpec := { name := "krbNames", fn := fun _ => fun
  | [] => { results := [.lit (.bool false)], args := [] }
  | _ => none }
def KrbNamesWrongFalsely : Prop := krbNamesRow.holds Tryd.pinned (OpenSpec.ofChange krbNamesWrong)

/-- 'gangwaylaw08.KrbWrites': WHATEVER THE INPUT: true; the input reads as it did. -/
def krbWritesSpec : ChangeSpec := { name := "krbWrites", fn := fun _ => fun
  | [d] => { results := [.lit (.bool true)], args := [d] }
  | _ => none }
def krbWritesRow : OpenClaim := { program := "ytnaoagiphehcaaadoor", sum := "b10073320988cc91a56018d17e0f526d4c3868499e3c101d65b5e1cd9106a89a", func := "gangway/gangwaylaw08.KrbWrites", spec := "krbWrites", inPlace := ["internal/bytealg.IndexByteString", "internal/bytealg.IndexString", "internal/bytealg.CountString"], recurses := true, named := ["internal/bytealg.MaxLen", "unicode/utf8.first", "unicode/utf8.acceptRanges"], apart := false, laid := [("unicode/utf8.acceptRanges", laid_unicode_utf8_acceptRanges), ("unicode/utf8.first", laid_unicode_utf8_first)] }
def KrbWritesSaid : Prop := krbWritesRow.holds Tryd.pinned (OpenSpec.ofChange krbWritesSpec)

/-- ITS FALSE NEIGHBOUR: 'it returns false'. Refute it at one input. -/
def krbWritesWrong : ChangeSpec := { name := "krbWrites", fn := fun _ => fun
  | [d] => { results := [.lit (.bool false)], args := [d] }
  | _ => none }
def KrbWritesWrongFalsely : Prop := krbWritesRow.holds Tryd.pinned (OpenSpec.ofChange krbWritesWrong)

/-- 'gangwaylaw08.KrbReads': WHATEVER THE INPUT: true; the input reads as it did. -/
def krbReadsSpec : ChangeSpec := { name := "krbReads", fn := fun _ => fun
  | [d] => { results := [.lit (.bool true)], args := [d] }
  | _ => none }
def krbReadsRow : OpenClaim := { program := "ytnaoagiphehcaaadoor", sum := "b10073320988cc91a56018d17e0f526d4c3868499e3c101d65b5e1cd9106a89a", func := "gangway/gangwaylaw08.KrbReads", spec := "krbReads", inPlace := ["internal/bytealg.IndexByteString", "internal/bytealg.IndexString", "internal/bytealg.CountString"], recurses := true, named := ["internal/bytealg.MaxLen", "unicode/utf8.first", "unicode/utf8.acceptRanges"], apart := false, laid := [("unicode/utf8.acceptRanges", laid_unicode_utf8_acceptRanges), ("unicode/utf8.first", laid_unicode_utf8_first)] }
def KrbReadsSaid : Prop := krbReadsRow.holds Tryd.pinned (OpenSpec.ofChange krbReadsSpec)

/-- ITS FALSE NEIGHBOUR: 'it returns false'. Refute it at one input. -/
def krbReadsWrong : ChangeSpec := { name := "krbReads", fn := fun _ => fun
  | [d] => { results := [.lit (.bool false)], args := [d] }
  | _ => none }
def KrbReadsWrongFalsely : Prop := krbReadsRow.holds Tryd.pinned (OpenSpec.ofChange krbReadsWrong)

/-- 'gangwaylaw08.KrbApart': WHATEVER THE INPUT: true; the input reads as it did. -/
def krbApartSpec : ChangeSpec := { name := "krbApart", fn := fun _ => fun
  | [d1, d2] => { results := [.lit (.bool true)], args := [d1, d2] }
  | _ => none }
def krbApartRow : OpenClaim := { program := "ytnaoagiphehcaaadoor", sum := "b10073320988cc91a56018d17e0f526d4c3868499e3c101d65b5e1cd9106a89a", func := "gangway/gangwaylaw08.KrbApart", spec := "krbApart", inPlace := ["internal/bytealg.IndexByteString", "internal/bytealg.IndexString", "internal/bytealg.CountString"], recurses := true, named := ["internal/bytealg.MaxLen", "unicode/utf8.first", "unicode/utf8.acceptRanges"], apart := false, laid := [("unicode/utf8.acceptRanges", laid_unicode_utf8_acceptRanges), ("unicode/utf8.first", laid_unicode_utf8_first)] }
def KrbApartSaid : Prop := krbApartRow.holds Tryd.pinned (OpenSpec.ofChange krbApartSpec)

/-- ITS FALSE NEIGHBOUR: 'it returns false'. Refute it at one input. -/
def krbApartWrong : ChangeSpec := { name := "krbApart", fn := fun _ => fun
  | [d1, d2] => { results := [.lit (.bool false)], args := [d1, d2] }
  | _ => none }
def KrbApartWrongFalsely : Prop := krbApartRow.holds Tryd.pinned (OpenSpec.ofChange krbApartWrong)

/-- 'gangwaylaw08.KrbCuts': WHATEVER THE INPUT: true; the input reads as it did. -/
def krbCutsSpec : ChangeSpec := { name := "krbCuts", fn := fun _ => fun
  | [d1, d2, d3] => { results := [.lit (.bool true)], args := [d1, d2, d3] }
  | _ => none }
def krbCutsRow : OpenClaim := { program := "ytnaoagiphehcaaadoor", sum := "b10073320988cc91a56018d17e0f526d4c3868499e3c101d65b5e1cd9106a89a", func := "gangway/gangwaylaw08.KrbCuts", spec := "krbCuts", inPlace := ["internal/bytealg.IndexByteString", "internal/bytealg.IndexString", "internal/bytealg.CountString"], recurses := true, named := ["internal/bytealg.MaxLen", "unicode/utf8.first", "unicode/utf8.acceptRanges"], apart := false, laid := [("unicode/utf8.acceptRanges", laid_unicode_utf8_acceptRanges), ("unicode/utf8.first", laid_unicode_utf8_first)] }
def KrbCutsSaid : Prop := krbCutsRow.holds Tryd.pinned (OpenSpec.ofChange krbCutsSpec)

/-- ITS FALSE NEIGHBOUR: 'it returns false'. Refute it at one input. -/
def krbCutsWrong : ChangeSpec := { name := "krbCuts", fn := fun _ => fun
  | [d1, d2, d3] => { results := [.lit (.bool false)], args := [d1, d2, d3] }
  | _ => none }
def KrbCutsWrongFalsely : Prop := krbCutsRow.holds Tryd.pinned (OpenSpec.ofChange krbCutsWrong)

/-- 'gangwaylaw08.KrbBare': WHATEVER THE INPUT: true; the input reads as it did. -/
def krbBareSpec : ChangeSpec := { name := "krbBare", fn := fun _ => fun
  | [d1, d2] => { results := [.lit (.bool true)], args := [d1, d2] }
  | _ => none }
def krbBareRow : OpenClaim := { program := "ytnaoagiphehcaaadoor", sum := "b10073320988cc91a56018d17e0f526d4c3868499e3c101d65b5e1cd9106a89a", func := "gangway/gangwaylaw08.KrbBare", spec := "krbBare", inPlace := ["internal/bytealg.IndexByteString", "internal/bytealg.IndexString", "internal/bytealg.CountString"], recurses := true, named := ["internal/bytealg.MaxLen", "unicode/utf8.first", "unicode/utf8.acceptRanges"], apart := false, laid := [("unicode/utf8.acceptRanges", laid_unicode_utf8_acceptRanges), ("unicode/utf8.first", laid_unicode_utf8_first)] }
def KrbBareSaid : Prop := krbBareRow.holds Tryd.pinned (OpenSpec.ofChange krbBareSpec)

/-- ITS FALSE NEIGHBOUR: 'it returns false'. Refute it at one input. -/
def krbBareWrong : ChangeSpec := { name := "krbBare", fn := fun _ => fun
  | [d1, d2] => { results := [.lit (.bool false)], args := [d1, d2] }
  | _ => none }
def KrbBareWrongFalsely : Prop := krbBareRow.holds Tryd.pinned (OpenSpec.ofChange krbBareWrong)

/-- 'gangwaylaw09.BasePlays': WHATEVER THE INPUT: true; the input reads as it did. -/
def basePlaysSpec : ChangeSpec := { name := "basePlays", fn := fun _ => fun
  | [d] => { results := [.lit (.bool true)], args := [d] }
  | _ => none }
def basePlaysRow : OpenClaim := { program := "ytnaoagiphehcaaadoor", sum := "b10073320988cc91a56018d17e0f526d4c3868499e3c101d65b5e1cd9106a89a", func := "gangway/gangwaylaw09.BasePlays", spec := "basePlays", inPlace := ["internal/bytealg.IndexByteString", "internal/bytealg.IndexString", "internal/bytealg.CountString"], unfollowed := true, recurses := true, named := ["internal/bytealg.MaxLen", "unicode/utf8.first", "unicode/utf8.acceptRanges"], apart := false, laid := [("unicode/utf8.acceptRanges", laid_unicode_utf8_acceptRanges), ("unicode/utf8.first", laid_unicode_utf8_first)] }
def BasePlaysSaid : Prop := basePlaysRow.holds Tryd.pinned (OpenSpec.ofChange basePlaysSpec)

/-- ITS FALSE NEIGHBOUR: 'it returns false'. Refute it at one input. -/
def basePlaysWrong : ChangeSpec := { name := "basePlays", fn := fun _ => fun
  | [d] => { results := [.lit (.bool false)], args := [d] }
  | _ => none }
def BasePlaysWrongFalsely : Prop := basePlaysRow.holds Tryd.pinned (OpenSpec.ofChange basePlaysWrong)

/-- 'gangwaylaw09.BaseLast': WHATEVER THE INPUT: true; the input reads as it did. -/
def baseLastSpec : ChangeSpec := { name := "baseLast", fn := fun _ => fun
  | [d1, d2] => { results := [.lit (.bool true)], args := [d1, d2] }
  | _ => none }
def baseLastRow : OpenClaim := { program := "ytnaoagiphehcaaadoor", sum := "b10073320988cc91a56018d17e0f526d4c3868499e3c101d65b5e1cd9106a89a", func := "gangway/gangwaylaw09.BaseLast", spec := "baseLast", inPlace := ["internal/bytealg.IndexByteString", "internal/bytealg.IndexString", "internal/bytealg.CountString"], unfollowed := true, recurses := true, named := ["internal/bytealg.MaxLen", "unicode/utf8.first", "unicode/utf8.acceptRanges"], apart := false, laid := [("unicode/utf8.acceptRanges", laid_unicode_utf8_acceptRanges), ("unicode/utf8.first", laid_unicode_utf8_first)] }
def BaseLastSaid : Prop := baseLastRow.holds Tryd.pinned (OpenSpec.ofChange baseLastSpec)

/-- ITS FALSE NEIGHBOUR: 'it returns false'. Refute it at one input. -/
def baseLastWrong : ChangeSpec := { name := "baseLast", fn := fun _ => fun
  | [d1, d2] => { results := [.lit (.bool false)], args := [d1, d2] }
  | _ => none }
def BaseLastWrongFalsely : Prop := baseLastRow.holds Tryd.pinned (OpenSpec.ofChange baseLastWrong)

/-- 'gangwaylaw09.BaseFull': WHATEVER THE INPUT: true; the input reads as it did. -/
def baseFullSpec : ChangeSpec := { name := "baseFull", fn := fun _ => fun
  | [d1, d2] => { results := [.lit (.bool true)], args := [d1, d2] }
  | _ => none }
def baseFullRow : OpenClaim := { program := "ytnaoagiphehcaaadoor", sum := "b10073320988cc91a56018d17e0f526d4c3868499e3c101d65b5e1cd9106a89a", func := "gangway/gangwaylaw09.BaseFull", spec := "baseFull", inPlace := ["internal/bytealg.IndexByteString", "internal/bytealg.IndexString", "internal/bytealg.CountString"], unfollowed := true, recurses := true, named := ["internal/bytealg.MaxLen", "unicode/utf8.first", "unicode/utf8.acceptRanges"], apart := false, laid := [("unicode/utf8.acceptRanges", laid_unicode_utf8_acceptRanges), ("unicode/utf8.first", laid_unicode_utf8_first)] }
def BaseFullSaid : Prop := baseFullRow.holds Tryd.pinned (OpenSpec.ofChange baseFullSpec)

/-- ITS FALSE NEIGHBOUR: 'it returns false'. Refute it at one input. -/
def baseFullWrong : ChangeSpec := { name := "baseFull", fn := fun _ => fun
  | [d1, d2] => { results := [.lit (.bool false)], args := [d1, d2] }
  | _ => none }
def BaseFullWrongFalsely : Prop := baseFullRow.holds Tryd.pinned (OpenSpec.ofChange baseFullWrong)

/- THE SECOND FORM. 'bulk': how many values and letters a reading holds, each counted each time it is reached (what is shared counts as often as it is met; a slice's spare places count too). A statement '..UptoSaid' is the law's where the arguments, and the package variables that the reading takes, are together of bulk at most 1048576: NARROWER than '..Said'. Prove '..Said' where nothing that the law and all that it calls make is longer than what came in: it says more and counts as full. Else prove '..UptoSaid'. A law counts once. -/
mutual
def uptoBulk {H : Type} : DataW H → Nat
  | .lit (.string bytes) => bytes.length + 1
  | .lit _ => 1
  | .nil => 1
  | .ptr d => uptoBulk d + 1
  | .slice elems spare => uptoBulkAll elems + uptoBulkAll spare + 1
  | .agg parts => uptoBulkAll parts + 1
  | .iface _ d => uptoBulk d + 1
  | .map entries => uptoBulkEntries entries + 1
  | .held _ => 1
def uptoBulkAll {H : Type} : List (DataW H) → Nat
  | [] => 0
  | d :: r => uptoBulk d + uptoBulkAll r
def uptoBulkEntries {H : Type} : List (Lit × DataW H) → Nat
  | [] => 0
  | x :: r => uptoBulkEntry x + uptoBulkEntries r
def uptoBulkEntry {H : Type} : Lit × DataW H → Nat
  | (.string bytes, d) => bytes.length + uptoBulk d + 1
  | (_, d) => uptoBulk d + 1
 end
def uptoSmall : (H : Type) → List (DataW H) → Bool := fun _ ds => decide (uptoBulkAll ds ≤ 1048576)
def OpenSpec.upto (s : _root_.Go.ChangeSpec) : _root_.Go.OpenSpec := { _root_.Go.OpenSpec.ofChange s with cond := some uptoSmall }

/-- 'gangwaylaw07.TicketWrites', WHERE WHAT IT READS IS OF BULK AT MOST 1048576: true; the input reads as it did. -/
def ticketWritesUptoRow : OpenClaim := { program := "ytnaoagiphehcaaadoor", sum := "b10073320988cc91a56018d17e0f526d4c3868499e3c101d65b5e1cd9106a89a", func := "gangway/gangwaylaw07.TicketWrites", spec := "ticketWrites", inPlace := ["internal/bytealg.IndexByteString", "internal/bytealg.IndexString", "internal/bytealg.CountString"], unfollowed := true, recurses := true, named := ["internal/bytealg.MaxLen", "unicode/utf8.first", "unicode/utf8.acceptRanges"], apart := false, laid := [("unicode/utf8.acceptRanges", laid_unicode_utf8_acceptRanges), ("unicode/utf8.first", laid_unicode_utf8_first)], narrowed := true }
def TicketWritesUptoSaid : Prop := ticketWritesUptoRow.holds Tryd.pinned (OpenSpec.upto ticketWritesSpec)

/-- 'gangwaylaw07.TicketAuths', WHERE WHAT IT READS IS OF BULK AT MOST 1048576: true; the input reads as it did. -/
def ticketAuthsUptoRow : OpenClaim := { program := "ytnaoagiphehcaaadoor", sum := "b10073320988cc91a56018d17e0f526d4c3868499e3c101d65b5e1cd9106a89a", func := "gangway/gangwaylaw07.TicketAuths", spec := "ticketAuths", inPlace := ["internal/bytealg.IndexByteString", "internal/bytealg.IndexString", "internal/bytealg.CountString"], unfollowed := true, recurses := true, named := ["internal/bytealg.MaxLen", "unicode/utf8.first", "unicode/utf8.acceptRanges"], apart := false, laid := [("unicode/utf8.acceptRanges", laid_unicode_utf8_acceptRanges), ("unicode/utf8.first", laid_unicode_utf8_first)], narrowed := true }
def TicketAuthsUptoSaid : Prop := ticketAuthsUptoRow.holds Tryd.pinned (OpenSpec.upto ticketAuthsSpec)

/-- 'gangwaylaw07.TicketGrants', WHERE WHAT IT READS IS OF BULK AT MOST 1048576: true; the input reads as it did. -/
def ticketGrantsUptoRow : OpenClaim := { program := "ytnaoagiphehcaaadoor", sum := "b10073320988cc91a56018d17e0f526d4c3868499e3c101d65b5e1cd9106a89a", func := "gangway/gangwaylaw07.TicketGrants", spec := "ticketGrants", inPlace := ["internal/bytealg.IndexByteString", "internal/bytealg.IndexString", "internal/bytealg.CountString"], unfollowed := true, recurses := true, named := ["internal/bytealg.MaxLen", "unicode/utf8.first", "unicode/utf8.acceptRanges"], apart := false, laid := [("unicode/utf8.acceptRanges", laid_unicode_utf8_acceptRanges), ("unicode/utf8.first", laid_unicode_utf8_first)], narrowed := true }
def TicketGrantsUptoSaid : Prop := ticketGrantsUptoRow.holds Tryd.pinned (OpenSpec.upto ticketGrantsSpec)

/-- 'gangwaylaw08.KrbNames', WHERE WHAT IT READS IS OF BULK AT MOST 1048576: true; the input reads as it did. -/
def krbNamesUptoRow : OpenClaim := { program := "ytnaoagiphehcaaadoor", sum := "b10073320988cc91a56018d17e0f526d4c3868499e3c101d65b5e1cd9106a89a", func := "gangway/gangwaylaw08.KrbNames", spec := "krbNames", inPlace := ["internal/bytealg.IndexByteString", "internal/bytealg.IndexString", "internal/bytealg.CountString"], recurses := true, named := ["internal/bytealg.MaxLen", "unicode/utf8.first", "unicode/utf8.acceptRanges"], apart := false, laid := [("unicode/utf8.acceptRanges", laid_unicode_utf8_acceptRanges), ("unicode/utf8.first", laid_unicode_utf8_first)], narrowed := true }
def KrbNamesUptoSaid : Prop := krbNamesUptoRow.holds Tryd.pinned (OpenSpec.upto krbNamesSpec)

/-- 'gangwaylaw08.KrbWrites', WHERE WHAT IT READS IS OF BULK AT MOST 1048576: true; the input reads as it did. -/
def krbWritesUptoRow : OpenClaim := { program := "ytnaoagiphehcaaadoor", sum := "b10073320988cc91a56018d17e0f526d4c3868499e3c101d65b5e1cd9106a89a", func := "gangway/gangwaylaw08.KrbWrites", spec := "krbWrites", inPlace := ["internal/bytealg.IndexByteString", "internal/bytealg.IndexString", "internal/bytealg.CountString"], recurses := true, named := ["internal/bytealg.MaxLen", "unicode/utf8.first", "unicode/utf8.acceptRanges"], apart := false, laid := [("unicode/utf8.acceptRanges", laid_unicode_utf8_acceptRanges), ("unicode/utf8.first", laid_unicode_utf8_first)], narrowed := true }
def KrbWritesUptoSaid : Prop := krbWritesUptoRow.holds Tryd.pinned (OpenSpec.upto krbWritesSpec)

/-- 'gangwaylaw08.KrbReads', WHERE WHAT IT READS IS OF BULK AT MOST 1048576: true; the input reads as it did. -/
def krbReadsUptoRow : OpenClaim := { program := "ytnaoagiphehcaaadoor", sum := "b10073320988cc91a56018d17e0f526d4c3868499e3c101d65b5e1cd9106a89a", func := "gangway/gangwaylaw08.KrbReads", spec := "krbReads", inPlace := ["internal/bytealg.IndexByteString", "internal/bytealg.IndexString", "internal/bytealg.CountString"], recurses := true, named := ["internal/bytealg.MaxLen", "unicode/utf8.first", "unicode/utf8.acceptRanges"], apart := false, laid := [("unicode/utf8.acceptRanges", laid_unicode_utf8_acceptRanges), ("unicode/utf8.first", laid_unicode_utf8_first)], narrowed := true }
def KrbReadsUptoSaid : Prop := krbReadsUptoRow.holds Tryd.pinned (OpenSpec.upto krbReadsSpec)

/-- 'gangwaylaw08.KrbApart', WHERE WHAT IT READS IS OF BULK AT MOST 1048576: true; the input reads as it did. -/
def krbApartUptoRow : OpenClaim := { program := "ytnaoagiphehcaaadoor", sum := "b10073320988cc91a56018d17e0f526d4c3868499e3c101d65b5e1cd9106a89a", func := "gangway/gangwaylaw08.KrbApart", spec := "krbApart", inPlace := ["internal/bytealg.IndexByteString", "internal/bytealg.IndexString", "internal/bytealg.CountString"], recurses := true, named := ["internal/bytealg.MaxLen", "unicode/utf8.first", "unicode/utf8.acceptRanges"], apart := false, laid := [("unicode/utf8.acceptRanges", laid_unicode_utf8_acceptRanges), ("unicode/utf8.first", laid_unicode_utf8_first)], narrowed := true }
def KrbApartUptoSaid : Prop := krbApartUptoRow.holds Tryd.pinned (OpenSpec.upto krbApartSpec)

/-- 'gangwaylaw08.KrbCuts', WHERE WHAT IT READS IS OF BULK AT MOST 1048576: true; the input reads as it did. -/
def krbCutsUptoRow : OpenClaim := { program := "ytnaoagiphehcaaadoor", sum := "b10073320988cc91a56018d17e0f526d4c3868499e3c101d65b5e1cd9106a89a", func := "gangway/gangwaylaw08.KrbCuts", spec := "krbCuts", inPlace := ["internal/bytealg.IndexByteString", "internal/bytealg.IndexString", "internal/bytealg.CountString"], recurses := true, named := ["internal/bytealg.MaxLen", "unicode/utf8.first", "unicode/utf8.acceptRanges"], apart := false, laid := [("unicode/utf8.acceptRanges", laid_unicode_utf8_acceptRanges), ("unicode/utf8.first", laid_unicode_utf8_first)], narrowed := true }
def KrbCutsUptoSaid : Prop := krbCutsUptoRow.holds Tryd.pinned (OpenSpec.upto krbCutsSpec)

/-- 'gangwaylaw08.KrbBare', WHERE WHAT IT READS IS OF BULK AT MOST 1048576: true; the input reads as it did. -/
def krbBareUptoRow : OpenClaim := { program := "ytnaoagiphehcaaadoor", sum := "b10073320988cc91a56018d17e0f526d4c3868499e3c101d65b5e1cd9106a89a", func := "gangway/gangwaylaw08.KrbBare", spec := "krbBare", inPlace := ["internal/bytealg.IndexByteString", "internal/bytealg.IndexString", "internal/bytealg.CountString"], recurses := true, named := ["internal/bytealg.MaxLen", "unicode/utf8.first", "unicode/utf8.acceptRanges"], apart := false, laid := [("unicode/utf8.acceptRanges", laid_unicode_utf8_acceptRanges), ("unicode/utf8.first", laid_unicode_utf8_first)], narrowed := true }
def KrbBareUptoSaid : Prop := krbBareUptoRow.holds Tryd.pinned (OpenSpec.upto krbBareSpec)

/-- 'gangwaylaw09.BasePlays', WHERE WHAT IT READS IS OF BULK AT MOST 1048576: true; the input reads as it did. -/
def basePlaysUptoRow : OpenClaim := { program := "ytnaoagiphehcaaadoor", sum := "b10073320988cc91a56018d17e0f526d4c3868499e3c101d65b5e1cd9106a89a", func := "gangway/gangwaylaw09.BasePlays", spec := "basePlays", inPlace := ["internal/bytealg.IndexByteString", "internal/bytealg.IndexString", "internal/bytealg.CountString"], unfollowed := true, recurses := true, named := ["internal/bytealg.MaxLen", "unicode/utf8.first", "unicode/utf8.acceptRanges"], apart := false, laid := [("unicode/utf8.acceptRanges", laid_unicode_utf8_acceptRanges), ("unicode/utf8.first", laid_unicode_utf8_first)], narrowed := true }
def BasePlaysUptoSaid : Prop := basePlaysUptoRow.holds Tryd.pinned (OpenSpec.upto basePlaysSpec)

/-- 'gangwaylaw09.BaseLast', WHERE WHAT IT READS IS OF BULK AT MOST 1048576: true; the input reads as it did. -/
def baseLastUptoRow : OpenClaim := { program := "ytnaoagiphehcaaadoor", sum := "b10073320988cc91a56018d17e0f526d4c3868499e3c101d65b5e1cd9106a89a", func := "gangway/gangwaylaw09.BaseLast", spec := "baseLast", inPlace := ["internal/bytealg.IndexByteString", "internal/bytealg.IndexString", "internal/bytealg.CountString"], unfollowed := true, recurses := true, named := ["internal/bytealg.MaxLen", "unicode/utf8.first", "unicode/utf8.acceptRanges"], apart := false, laid := [("unicode/utf8.acceptRanges", laid_unicode_utf8_acceptRanges), ("unicode/utf8.first", laid_unicode_utf8_first)], narrowed := true }
def BaseLastUptoSaid : Prop := baseLastUptoRow.holds Tryd.pinned (OpenSpec.upto baseLastSpec)

/-- 'gangwaylaw09.BaseFull', WHERE WHAT IT READS IS OF BULK AT MOST 1048576: true; the input reads as it did. -/
def baseFullUptoRow : OpenClaim := { program := "ytnaoagiphehcaaadoor", sum := "b10073320988cc91a56018d17e0f526d4c3868499e3c101d65b5e1cd9106a89a", func := "gangway/gangwaylaw09.BaseFull", spec := "baseFull", inPlace := ["internal/bytealg.IndexByteString", "internal/bytealg.IndexString", "internal/bytealg.CountString"], unfollowed := true, recurses := true, named := ["internal/bytealg.MaxLen", "unicode/utf8.first", "unicode/utf8.acceptRanges"], apart := false, laid := [("unicode/utf8.acceptRanges", laid_unicode_utf8_acceptRanges), ("unicode/utf8.first", laid_unicode_utf8_first)], narrowed := true }
def BaseFullUptoSaid : Prop := baseFullUptoRow.holds Tryd.pinned (OpenSpec.upto baseFullSpec)

end Rows
end Go.Proofs.YtnaoagiphehcaaaDoor
