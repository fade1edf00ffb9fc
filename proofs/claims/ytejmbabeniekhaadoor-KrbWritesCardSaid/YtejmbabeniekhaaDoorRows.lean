/-
  NARROWER THAN 'FOR EVERY INPUT', by the rows' own cells (each row's printed sentence says how): KrbWrites: laid · KrbReads: laid · BasePlays: laid · BaseLast: laid · BaseFull: laid · CachePlays: laid · CacheFresh: laid · CacheMost: laid.
  DERIVED. THE GIVEN ROWS OF THIS SEAT. 8 by the template 'for every input the law returns true; each argument reads behind the call as it read before'; 0 by the template 'total and deterministic' (their statements: YtejmbabeniekhaaDoorTotals.lean).
  GIVEN WITH THE SEED: the statements are not yours to turn. If you find one false, say at which input.
  Laid BY PROGRAM, IN A SANDBOX (cutbox-rows.mjs): the forced cells as the released guide's own fill.sh prints them over the translation b2f68658c6bc1e5f… (all of the seat's roots in one cut). By AI agents, Wed Nov 11 2026. No macro, syntax, notation, axiom, sorry.
-/
import Derived.Test.YtejmbabeniekhaaDoorChecked
import GoSem.PinnedTables
import GoSem.Claim
import GoSem.ClaimJoined
import GoSem.ClaimMapViews
import Derived.JoinedTies
import Derived.KernelRfl
namespace Go.Proofs.YtejmbabeniekhaaDoor
/- THE CELL 'sum', in the pinned program and in every row, IS THE sha256 OF THE DUMP (.gsa) THAT YtejmbabeniekhaaDoorProg.lean LOADS. Nothing in Lean hashes anything: it is a label: what it is worth is what the hold of that sum in a sandbox is worth. -/
noncomputable def Tryd.pinned : Pinned := { name := "ytejmbabeniekhaadoor", sum := "b2f68658c6bc1e5fc337f7afea08f28d9f83db552b53254324e3f1c07f9fdcf0", checked := Tryd.checked }
namespace Rows
def none {H : Type} : Left H := { results := [], args := [] }

/- WHAT THE LISTED PACKAGE-LEVEL VARIABLES READ AS WHEN THE CALL BEGINS. Each datum BY PROGRAM (the guide's laid-datum.mjs) off the statement by which the dump's own 'gosem.cut.vars' lays the variable. In a bare row this is a premise. The card (YtejmbabeniekhaaDoorCards.lean) ties it to the program's text. -/
def laid_unicode_utf8_acceptRanges {H : Type} : DataW H := .agg [.agg [.lit (.int .u8 128), .lit (.int .u8 191)], .agg [.lit (.int .u8 160), .lit (.int .u8 191)], .agg [.lit (.int .u8 128), .lit (.int .u8 159)], .agg [.lit (.int .u8 144), .lit (.int .u8 191)], .agg [.lit (.int .u8 128), .lit (.int .u8 143)], .agg [.lit (.int .u8 0), .lit (.int .u8 0)], .agg [.lit (.int .u8 0), .lit (.int .u8 0)], .agg [.lit (.int .u8 0), .lit (.int .u8 0)], .agg [.lit (.int .u8 0), .lit (.int .u8 0)], .agg [.lit (.int .u8 0), .lit (.int .u8 0)], .agg [.lit (.int .u8 0), .lit (.int .u8 0)], .agg [.lit (.int .u8 0), .lit (.int .u8 0)], .agg [.lit (.int .u8 0), .lit (.int .u8 0)], .agg [.lit (.int .u8 0), .lit (.int .u8 0)], .agg [.lit (.int .u8 0), .lit (.int .u8 0)], .agg [.lit (.int .u8 0), .lit (.int .u8 0)]]
/-- One of Go's own tables, pinned by name: the form's constant. -/
def laid_unicode_utf8_first : DataW Unit := Go.Pinned.utf8First

/-- 'gangwaylaw08.KrbWrites': WHATEVER THE INPUT: true; the input reads as it did. -/
def krbWritesSpec : ChangeSpec := { name := "krbWrites", fn := fun _ => fun
  | [d] => { results := [.lit (.bool true)], args := [d] }
  | _ => none }
def krbWritesRow : OpenClaim := { program := "ytejmbabeniekhaadoor", sum := "b2f68658c6bc1e5fc337f7afea08f28d9f83db552b53254324e3f1c07f9fdcf0", func := "gangway/gangwaylaw08.KrbWrites", spec := "krbWrites", inPlace := ["internal/bytealg.IndexByteString", "internal/bytealg.IndexString", "internal/bytealg.CountString"], recurses := true, named := ["internal/bytealg.MaxLen", "unicode/utf8.first", "unicode/utf8.acceptRanges"], apart := false, laid := [("unicode/utf8.acceptRanges", laid_unicode_utf8_acceptRanges), ("unicode/utf8.first", laid_unicode_utf8_first)] }
def KrbWritesSaid : Prop := krbWritesRow.holds Tryd.pinned (OpenSpec.ofChange krbWritesSpec)

/-- ITS FALSE NEIGHBOUR: 'it returns false'. Refute it at one input. -/
def krbWritesWrong : ChangeSpec := { name := "krbWrites", fn := fun _ => fun
  | [d] => { results := [.lit (.bool false)], args := [d] }
  | _ => none }
def KrbWritesWrongFalsely : Prop := krbWritesRow.holds Tryd.pinned (OpenSpec.ofChange krbWritesWrong)

/-- 'gangwaylaw08.KrbReads': WHATEVER THE INPUT: true; the input reads as it did. -/
def krbReadsSpec : ChangeSpec := { name := "krbReads", fn := fun _ => fun
  | [d] => { results := [.lit (.bool true)], args := [d] }
  | _ => none }
def krbReadsRow : OpenClaim := { program := "ytejmbabeniekhaadoor", sum := "b2f68658c6bc1e5fc337f7afea08f28d9f83db552b53254324e3f1c07f9fdcf0", func := "gangway/gangwaylaw08.KrbReads", spec := "krbReads", inPlace := ["internal/bytealg.IndexByteString", "internal/bytealg.IndexString", "internal/bytealg.CountString"], recurses := true, named := ["internal/bytealg.MaxLen", "unicode/utf8.first", "unicode/utf8.acceptRanges"], apart := false, laid := [("unicode/utf8.acceptRanges", laid_unicode_utf8_acceptRanges), ("unicode/utf8.first", laid_unicode_utf8_first)] }
def KrbReadsSaid : Prop := krbReadsRow.holds Tryd.pinned (OpenSpec.ofChange krbReadsSpec)

/-- ITS FALSE NEIGHBOUR: 'it returns false'. Refute it at one input. -/
def krbReadsWrong : ChangeSpec := { name := "krbReads", fn := fun _ => fun
  | [d] => { results := [.lit (.bool false)], args := [d] }
  | _ => none }
def KrbReadsWrongFalsely : Prop := krbReadsRow.holds Tryd.pinned (OpenSpec.ofChange krbReadsWrong)

/-- 'gangwaylaw09.BasePlays': WHATEVER THE INPUT: true; the input reads as it did. -/
def basePlaysSpec : ChangeSpec := { name := "basePlays", fn := fun _ => fun
  | [d] => { results := [.lit (.bool true)], args := [d] }
  | _ => none }
def basePlaysRow : OpenClaim := { program := "ytejmbabeniekhaadoor", sum := "b2f68658c6bc1e5fc337f7afea08f28d9f83db552b53254324e3f1c07f9fdcf0", func := "gangway/gangwaylaw09.BasePlays", spec := "basePlays", inPlace := ["internal/bytealg.IndexByteString", "internal/bytealg.IndexString", "internal/bytealg.CountString"], unfollowed := true, recurses := true, named := ["internal/bytealg.MaxLen", "unicode/utf8.first", "unicode/utf8.acceptRanges"], apart := false, laid := [("unicode/utf8.acceptRanges", laid_unicode_utf8_acceptRanges), ("unicode/utf8.first", laid_unicode_utf8_first)] }
def BasePlaysSaid : Prop := basePlaysRow.holds Tryd.pinned (OpenSpec.ofChange basePlaysSpec)

/-- ITS FALSE NEIGHBOUR: 'it returns false'. Refute it at one input. -/
def basePlaysWrong : ChangeSpec := { name := "basePlays", fn := fun _ => fun
  | [d] => { results := [.lit (.bool false)], args := [d] }
  | _ => none }
def BasePlaysWrongFalsely : Prop := basePlaysRow.holds Tryd.pinned (OpenSpec.ofChange basePlaysWrong)

/-- 'gangwaylaw09.BaseLast': WHATEVER THE INPUT: true; the input reads as it did. -/
def baseLastSpec : ChangeSpec := { name := "baseLast", fn := fun _ => fun
  | [d1, d2] => { results := [.lit (.bool true)], args := [d1, d2] }
  | _ => none }
def baseLastRow : OpenClaim := { program := "ytejmbabeniekhaadoor", sum := "b2f68658c6bc1e5fc337f7afea08f28d9f83db552b53254324e3f1c07f9fdcf0", func := "gangway/gangwaylaw09.BaseLast", spec := "baseLast", inPlace := ["internal/bytealg.IndexByteString", "internal/bytealg.IndexString", "internal/bytealg.CountString"], unfollowed := true, recurses := true, named := ["internal/bytealg.MaxLen", "unicode/utf8.first", "unicode/utf8.acceptRanges"], apart := false, laid := [("unicode/utf8.acceptRanges", laid_unicode_utf8_acceptRanges), ("unicode/utf8.first", laid_unicode_utf8_first)] }
def BaseLastSaid : Prop := baseLastRow.holds Tryd.pinned (OpenSpec.ofChange baseLastSpec)

/-- ITS FALSE NEIGHBOUR: 'it returns false'. Refute it at one input. -/
def baseLastWrong : ChangeSpec := { name := "baseLast", fn := fun _ => fun
  | [d1, d2] => { results := [.lit (.bool false)], args := [d1, d2] }
  | _ => none }
def BaseLastWrongFalsely : Prop := baseLastRow.holds Tryd.pinned (OpenSpec.ofChange baseLastWrong)

/-- 'gangwaylaw09.BaseFull': WHATEVER THE INPUT: true; the input reads as it did. -/
def baseFullSpec : ChangeSpec := { name := "baseFull", fn := fun _ => fun
  | [d1, d2] => { results := [.lit (.bool true)], args := [d1, d2] }
  | _ => none }
def baseFullRow : OpenClaim := { program := "ytejmbabeniekhaadoor", sum := "b2f68658c6bc1e5fc337f7afea08f28d9f83db552b53254324e3f1c07f9fdcf0", func := "gangway/gangwaylaw09.BaseFull", spec := "baseFull", inPlace := ["internal/bytealg.IndexByteString", "internal/bytealg.IndexString", "internal/bytealg.CountString"], unfollowed := true, recurses := true, named := ["internal/bytealg.MaxLen", "unicode/utf8.first", "unicode/utf8.acceptRanges"], apart := false, laid := [("unicode/utf8.acceptRanges", laid_unicode_utf8_acceptRanges), ("unicode/utf8.first", laid_unicode_utf8_first)] }
def BaseFullSaid : Prop := baseFullRow.holds Tryd.pinned (OpenSpec.ofChange baseFullSpec)

/-- ITS FALSE NEIGHBOUR: 'it returns false'. Refute it at one input. -/
def baseFullWrong : ChangeSpec := { name := "baseFull", fn := fun _ => fun
  | [d1, d2] => { results := [.lit (.bool false)], args := [d1, d2] }
  | _ => none }
def BaseFullWrongFalsely : Prop := baseFullRow.holds Tryd.pinned (OpenSpec.ofChange baseFullWrong)

/-- 'gangwaylaw11.CachePlays': WHATEVER THE INPUT: true; the input reads as it did. -/
def cachePlaysSpec : ChangeSpec := { name := "cachePlays", fn := fun _ => fun
  | [d] => { results := [.lit (.bool true)], args := [d] }
  | _ => none }
def cachePlaysRow : OpenClaim := { program := "ytejmbabeniekhaadoor", sum := "b2f68658c6bc1e5fc337f7afea08f28d9f83db552b53254324e3f1c07f9fdcf0", func := "gangway/gangwaylaw11.CachePlays", spec := "cachePlays", inPlace := ["internal/bytealg.IndexByteString", "internal/bytealg.IndexString", "internal/bytealg.CountString"], unfollowed := true, recurses := true, named := ["internal/bytealg.MaxLen", "unicode/utf8.first", "unicode/utf8.acceptRanges"], apart := false, laid := [("unicode/utf8.acceptRanges", laid_unicode_utf8_acceptRanges), ("unicode/utf8.first", laid_unicode_utf8_first)] }
def CachePlaysSaid : Prop := cachePlaysRow.holds Tryd.pinned (OpenSpec.ofChange cachePlaysSpec)

/-- ITS FALSE NEIGHBOUR: 'it returns false'. Refute it at one input. -/
def cachePlaysWrong : ChangeSpec := { name := "cachePlays", fn := fun _ => fun
  | [d] => { results := [.lit (.bool false)], args := [d] }
  | _ => none }
def CachePlaysWrongFalsely : Prop := cachePlaysRow.holds Tryd.pinned (OpenSpec.ofChange cachePlaysWrong)

/-- 'gangwaylaw11.CacheFresh': WHATEVER THE INPUT: true; the input reads as it did. -/
def cacheFreshSpec : ChangeSpec := { name := "cacheFresh", fn := fun _ => fun
  | [d1, d2, d3] => { results := [.lit (.bool true)], args := [d1, d2, d3] }
  | _ => none }
def cacheFreshRow : OpenClaim := { program := "ytejmbabeniekhaadoor", sum := "b2f68658c6bc1e5fc337f7afea08f28d9f83db552b53254324e3f1c07f9fdcf0", func := "gangway/gangwaylaw11.CacheFresh", spec := "cacheFresh", inPlace := ["internal/bytealg.IndexByteString", "internal/bytealg.IndexString", "internal/bytealg.CountString"], unfollowed := true, recurses := true, named := ["internal/bytealg.MaxLen", "unicode/utf8.first", "unicode/utf8.acceptRanges"], apart := false, laid := [("unicode/utf8.acceptRanges", laid_unicode_utf8_acceptRanges), ("unicode/utf8.first", laid_unicode_utf8_first)] }
def CacheFreshSaid : Prop := cacheFreshRow.holds Tryd.pinned (OpenSpec.ofChange cacheFreshSpec)

/-- ITS FALSE NEIGHBOUR: 'it returns false'. Refute it at one input. -/
def cacheFreshWrong : ChangeSpec := { name := "cacheFresh", fn := fun _ => fun
  | [d1, d2, d3] => { results := [.lit (.bool false)], args := [d1, d2, d3] }
  | _ => none }
def CacheFreshWrongFalsely : Prop := cacheFreshRow.holds Tryd.pinned (OpenSpec.ofChange cacheFreshWrong)

/-- 'gangwaylaw11.CacheMost': WHATEVER THE INPUT: true; the input reads as it did. -/
def cacheMostSpec : ChangeSpec := { name := "cacheMost", fn := fun _ => fun
  | [d1, d2] => { results := [.lit (.bool true)], args := [d1, d2] }
  | _ => none }
def cacheMostRow : OpenClaim := { program := "ytejmbabeniekhaadoor", sum := "b2f68658c6bc1e5fc337f7afea08f28d9f83db552b53254324e3f1c07f9fdcf0", func := "gangway/gangwaylaw11.CacheMost", spec := "cacheMost", inPlace := ["internal/bytealg.IndexByteString", "internal/bytealg.IndexString", "internal/bytealg.CountString"], unfollowed := true, recurses := true, named := ["internal/bytealg.MaxLen", "unicode/utf8.first", "unicode/utf8.acceptRanges"], apart := false, laid := [("unicode/utf8.acceptRanges", laid_unicode_utf8_acceptRanges), ("unicode/utf8.first", laid_unicode_utf8_first)] }
def CacheMostSaid : Prop := cacheMostRow.holds Tryd.pinned (OpenSpec.ofChange cacheMostSpec)

/-- ITS FALSE NEIGHBOUR: 'it returns false'. Refute it at one input. -/
def cacheMostWrong : ChangeSpec := { name := "cacheMost", fn := fun _ => fun
  | [d1, d2] => { results := [.lit (.bool false)], args := [d1, d2] }
  | _ => none }
def CacheMostWrongFalsely : Prop := cacheMostRow.holds Tryd.pinned (OpenSpec.ofChange cacheMostWrong)

/- THE SECOND FORM. 'bulk': how many values and letters a reading holds, each counted each time it is reached (what is shared counts as often as it is met; a slice's spare places count too). A statement '..UptoSaid' is the law's where the arguments, and the package variables that the reading takes, are together of bulk at most 1048576: NARROWER than '..Said'. Prove '..Said' where nothing that the law and all that it calls make is longer than what came in: it says more and counts as full. Else prove '..UptoSaid'. A law counts once. -/
mutual
def uptoBulk {H : Type} : DataW H → Nat
  | .lit (.string bytes) => bytes.length + 1
  | .lit _ => 1
  | .nil => 1
  | .ptr d => uptoBulk d + 1
  | .slice elems spare => uptoBulkAll elems + uptoBulkAll spare + 1
  | .agg parts => uptoBulkAll parts + 1
  | .iface _ d => uptoBulk d + 1
  | .map entries => uptoBulkEntries entries + 1
  | .held _ => 1
def uptoBulkAll {H : Type} : List (DataW H) → Nat
  | [] => 0
  | d :: r => uptoBulk d + uptoBulkAll r
def uptoBulkEntries {H : Type} : List (Lit × DataW H) → Nat
  | [] => 0
  | x :: r => uptoBulkEntry x + uptoBulkEntries r
def uptoBulkEntry {H : Type} : Lit × DataW H → Nat
  | (.string bytes, d) => bytes.length + uptoBulk d + 1
  | (_, d) => uptoBulk d + 1
 end
def uptoSmall : (H : Type) → List (DataW H) → Bool := fun _ ds => decide (uptoBulkAll ds ≤ 1048576)
def OpenSpec.upto (s : _root_.Go.ChangeSpec) : _root_.Go.OpenSpec := { _root_.Go.OpenSpec.ofChange s with cond := some uptoSmall }

/-- 'gangwaylaw08.KrbWrites', WHERE WHAT IT READS IS OF BULK AT MOST 1048576: true; the input reads as it did. -/
def krbWritesUptoRow : OpenClaim := { program := "ytejmbabeniekhaadoor", sum := "b2f68658c6bc1e5fc337f7afea08f28d9f83db552b53254324e3f1c07f9fdcf0", func := "gangway/gangwaylaw08.KrbWrites", spec := "krbWrites", inPlace := ["internal/bytealg.IndexByteString", "internal/bytealg.IndexString", "internal/bytealg.CountString"], recurses := true, named := ["internal/bytealg.MaxLen", "unicode/utf8.first", "unicode/utf8.acceptRanges"], apart := false, laid := [("unicode/utf8.acceptRanges", laid_unicode_utf8_acceptRanges), ("unicode/utf8.first", laid_unicode_utf8_first)], narrowed := true }
def KrbWritesUptoSaid : Prop := krbWritesUptoRow.holds Tryd.pinned (OpenSpec.upto krbWritesSpec)

/-- 'gangwaylaw08.KrbReads', WHERE WHAT IT READS IS OF BULK AT MOST 1048576: true; the input reads as it did. -/
def krbReadsUptoRow : OpenClaim := { program := "ytejmbabeniekhaadoor", sum := "b2f68658c6bc1e5fc337f7afea08f28d9f83db552b53254324e3f1c07f9fdcf0", func := "gangway/gangwaylaw08.KrbReads", spec := "krbReads", inPlace := ["internal/bytealg.IndexByteString", "internal/bytealg.IndexString", "internal/bytealg.CountString"], recurses := true, named := ["internal/bytealg.MaxLen", "unicode/utf8.first", "unicode/utf8.acceptRanges"], apart := false, laid := [("unicode/utf8.acceptRanges", laid_unicode_utf8_acceptRanges), ("unicode/utf8.first", laid_unicode_utf8_first)], narrowed := true }
def KrbReadsUptoSaid : Prop := krbReadsUptoRow.holds Tryd.pinned (OpenSpec.upto krbReadsSpec)

/-- 'gangwaylaw09.BasePlays', WHERE WHAT IT READS IS OF BULK AT MOST 1048576: true; the input reads as it did. -/
def basePlaysUptoRow : OpenClaim := { program := "ytejmbabeniekhaadoor", sum := "b2f68658c6bc1e5fc337f7afea08f28d9f83db552b53254324e3f1c07f9fdcf0", func := "gangway/gangwaylaw09.BasePlays", spec := "basePlays", inPlace := ["internal/bytealg.IndexByteString", "internal/bytealg.IndexString", "internal/bytealg.CountString"], unfollowed := true, recurses := true, named := ["internal/bytealg.MaxLen", "unicode/utf8.first", "unicode/utf8.acceptRanges"], apart := false, laid := [("unicode/utf8.acceptRanges", laid_unicode_utf8_acceptRanges), ("unicode/utf8.first", laid_unicode_utf8_first)], narrowed := true }
def BasePlaysUptoSaid : Prop := basePlaysUptoRow.holds Tryd.pinned (OpenSpec.upto basePlaysSpec)

/-- 'gangwaylaw09.BaseLast', WHERE WHAT IT READS IS OF BULK AT MOST 1048576: true; the input reads as it did. -/
def baseLastUptoRow : OpenClaim := { program := "ytejmbabeniekhaadoor", sum := "b2f68658c6bc1e5fc337f7afea08f28d9f83db552b53254324e3f1c07f9fdcf0", func := "gangway/gangwaylaw09.BaseLast", spec := "baseLast", inPlace := ["internal/bytealg.IndexByteString", "internal/bytealg.IndexString", "internal/bytealg.CountString"], unfollowed := true, recurses := true, named := ["internal/bytealg.MaxLen", "unicode/utf8.first", "unicode/utf8.acceptRanges"], apart := false, laid := [("unicode/utf8.acceptRanges", laid_unicode_utf8_acceptRanges), ("unicode/utf8.first", laid_unicode_utf8_first)], narrowed := true }
def BaseLastUptoSaid : Prop := baseLastUptoRow.holds Tryd.pinned (OpenSpec.upto baseLastSpec)

/-- 'gangwaylaw09.BaseFull', WHERE WHAT IT READS IS OF BULK AT MOST 1048576: true; the input reads as it did. -/
def baseFullUptoRow : OpenClaim := { program := "ytejmbabeniekhaadoor", sum := "b2f68658c6bc1e5fc337f7afea08f28d9f83db552b53254324e3f1c07f9fdcf0", func := "gangway/gangwaylaw09.BaseFull", spec := "baseFull", inPlace := ["internal/bytealg.IndexByteString", "internal/bytealg.IndexString", "internal/bytealg.CountString"], unfollowed := true, recurses := true, named := ["internal/bytealg.MaxLen", "unicode/utf8.first", "unicode/utf8.acceptRanges"], apart := false, laid := [("unicode/utf8.acceptRanges", laid_unicode_utf8_acceptRanges), ("unicode/utf8.first", laid_unicode_utf8_first)], narrowed := true }
def BaseFullUptoSaid : Prop := baseFullUptoRow.holds Tryd.pinned (OpenSpec.upto baseFullSpec)

/-- 'gangwaylaw11.CachePlays', WHERE WHAT IT READS IS OF BULK AT MOST 1048576: true; the input reads as it did. -/
def cachePlaysUptoRow : OpenClaim := { program := "ytejmbabeniekhaadoor", sum := "b2f68658c6bc1e5fc337f7afea08f28d9f83db552b53254324e3f1c07f9fdcf0", func := "gangway/gangwaylaw11.CachePlays", spec := "cachePlays", inPlace := ["internal/bytealg.IndexByteString", "internal/bytealg.IndexString", "internal/bytealg.CountString"], unfollowed := true, recurses := true, named := ["internal/bytealg.MaxLen", "unicode/utf8.first", "unicode/utf8.acceptRanges"], apart := false, laid := [("unicode/utf8.acceptRanges", laid_unicode_utf8_acceptRanges), ("unicode/utf8.first", laid_unicode_utf8_first)], narrowed := true }
def CachePlaysUptoSaid : Prop := cachePlaysUptoRow.holds Tryd.pinned (OpenSpec.upto cachePlaysSpec)

/-- 'gangwaylaw11.CacheFresh', WHERE WHAT IT READS IS OF BULK AT MOST 1048576: true; the input reads as it did. -/
def cacheFreshUptoRow : OpenClaim := { program := "ytejmbabeniekhaadoor", sum := "b2f68658c6bc1e5fc337f7afea08f28d9f83db552b53254324e3f1c07f9fdcf0", func := "gangway/gangwaylaw11.CacheFresh", spec := "cacheFresh", inPlace := ["internal/bytealg.IndexByteString", "internal/bytealg.IndexString", "internal/bytealg.CountString"], unfollowed := true, recurses := true, named := ["internal/bytealg.MaxLen", "unicode/utf8.first", "unicode/utf8.acceptRanges"], apart := false, laid := [("unicode/utf8.acceptRanges", laid_unicode_utf8_acceptRanges), ("unicode/utf8.first", laid_unicode_utf8_first)], narrowed := true }
def CacheFreshUptoSaid : Prop := cacheFreshUptoRow.holds Tryd.pinned (OpenSpec.upto cacheFreshSpec)

/-- 'gangwaylaw11.CacheMost', WHERE WHAT IT READS IS OF BULK AT MOST 1048576: true; the input reads as it did. -/
def cacheMostUptoRow : OpenClaim := { program := "ytejmbabeniekhaadoor", sum := "b2f68658c6bc1e5fc337f7afea08f28d9f83db552b53254324e3f1c07f9fdcf0", func := "gangway/gangwaylaw11.CacheMost", spec := "cacheMost", inPlace := ["internal/bytealg.IndexByteString", "internal/bytealg.IndexString", "internal/bytealg.CountString"], unfollowed := true, recurses := true, named := ["internal/bytealg.MaxLen", "unicode/utf8.first", "unicode/utf8.acceptRanges"], apart := false, laid := [("unicode/utf8.acceptRanges", laid_unicode_utf8_acceptRanges), ("unicode/utf8.first", laid_unicode_utf8_first)], narrowed := true }
def CacheMostUptoSaid : Prop := cacheMostUptoRow.holds Tryd.pinned (OpenSpec.upto cacheMostSpec)

end Rows
end Go.Proofs.YtejmbabeniekhaaDoor
