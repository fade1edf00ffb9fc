/-
  No cell of these rows narrows 'for every input' (looked for: loops, veiled, ifaces, maps, wideKeys, modest, calm, conditions, laid).
  DERIVED. THE GIVEN ROWS OF THIS SEAT. 5 by the template 'for every input the law returns true; each argument reads behind the call as it read before'; 0 by the template 'total and deterministic' (their statements: YtcfhpoigfkljpaaTotals.lean).
  GIVEN WITH THE SEED: the statements are not yours to turn. If you find one false, say at which input.
  Laid BY PROGRAM, IN A SANDBOX (cutbox-rows.mjs): the forced cells as the released guide's own fill.sh prints them over the translation 34cb3fc4fd13bdba… (all of the seat's roots in one cut). By AI agents, Wed Nov 11 2026. No macro, syntax, notation, axiom, sorry.
-/
import Derived.Test.YtcfhpoigfkljpaaChecked
import GoSem.Claim
import GoSem.ClaimJoined
import GoSem.ClaimMapViews
import Derived.JoinedTies
import Derived.KernelRfl
namespace Go.Proofs.Ytcfhpoigfkljpaa
/- THE CELL 'sum', in the pinned program and in every row, IS THE sha256 OF THE DUMP (.gsa) THAT YtcfhpoigfkljpaaProg.lean LOADS. Nothing in Lean hashes anything: it is a label: what it is worth is what the hold of that sum in a sandbox is worth. -/
noncomputable def Try.pinned : Pinned := { name := "ytcfhpoigfkljpaa", sum := "34cb3fc4fd13bdba9e621a2024af16c90805a5b562813157e12ea977ef57199c", checked := Try.checked }
namespace Rows
def none {H : Type} : Left H := { results := [], args := [] }

/-- 'gangwaylaw22.TeloptWrites': WHATEVER THE INPUT: true; the input reads as it did. -/
def teloptWritesSpec : ChangeSpec := { name := "teloptWrites", fn := fun _ => fun
  | [d] => { results := [.lit (.bool true)], args := [d] }
  | _ => none }
def teloptWritesRow : OpenClaim := { program := "ytcfhpoigfkljpaa", sum := "34cb3fc4fd13bdba9e621a2024af16c90805a5b562813157e12ea977ef57199c", func := "gangway/gangwaylaw22.TeloptWrites", spec := "teloptWrites", apart := false }
def TeloptWritesSaid : Prop := teloptWritesRow.holds Try.pinned (OpenSpec.ofChange teloptWritesSpec)

/-- ITS FALSE NEIGHBOUR: 'it returns false'. Refute it at one input. -/
def teloptWritesWrong : ChangeSpec := { name := "teloptWrites", fn := fun _ => fun
  | [d] => { results := [.lit (.bool false)], args := [d] }
  | _ => none }
def TeloptWritesWrongFalsely : Prop := teloptWritesRow.holds Try.pinned (OpenSpec.ofChange teloptWritesWrong)

/-- 'gangwaylaw22.TeloptFeeds': WHATEVER THE INPUT: true; the input reads as it did. -/
def teloptFeedsSpec : ChangeSpec := { name := "teloptFeeds", fn := fun _ => fun
  | [d] => { results := [.lit (.bool true)], args := [d] }
  | _ => none }
def teloptFeedsRow : OpenClaim := { program := "ytcfhpoigfkljpaa", sum := "34cb3fc4fd13bdba9e621a2024af16c90805a5b562813157e12ea977ef57199c", func := "gangway/gangwaylaw22.TeloptFeeds", spec := "teloptFeeds", apart := false }
def TeloptFeedsSaid : Prop := teloptFeedsRow.holds Try.pinned (OpenSpec.ofChange teloptFeedsSpec)

/-- ITS FALSE NEIGHBOUR: 'it returns false'. Refute it at one input. -/
def teloptFeedsWrong : ChangeSpec := { name := "teloptFeeds", fn := fun _ => fun
  | [d] => { results := [.lit (.bool false)], args := [d] }
  | _ => none }
def TeloptFeedsWrongFalsely : Prop := teloptFeedsRow.holds Try.pinned (OpenSpec.ofChange teloptFeedsWrong)

/-- 'gangwaylaw22.TeloptPieces': WHATEVER THE INPUT: true; the input reads as it did. -/
def teloptPiecesSpec : ChangeSpec := { name := "teloptPieces", fn := fun _ => fun
  | [d1, d2] => { results := [.lit (.bool true)], args := [d1, d2] }
  | _ => none }
def teloptPiecesRow : OpenClaim := { program := "ytcfhpoigfkljpaa", sum := "34cb3fc4fd13bdba9e621a2024af16c90805a5b562813157e12ea977ef57199c", func := "gangway/gangwaylaw22.TeloptPieces", spec := "teloptPieces", apart := false }
def TeloptPiecesSaid : Prop := teloptPiecesRow.holds Try.pinned (OpenSpec.ofChange teloptPiecesSpec)

/-- ITS FALSE NEIGHBOUR: 'it returns false'. Refute it at one input. -/
def teloptPiecesWrong : ChangeSpec := { name := "teloptPieces", fn := fun _ => fun
  | [d1, d2] => { results := [.lit (.bool false)], args := [d1, d2] }
  | _ => none }
def TeloptPiecesWrongFalsely : Prop := teloptPiecesRow.holds Try.pinned (OpenSpec.ofChange teloptPiecesWrong)

/-- 'gangwaylaw22.TeloptAuths': WHATEVER THE INPUT: true; the input reads as it did. -/
def teloptAuthsSpec : ChangeSpec := { name := "teloptAuths", fn := fun _ => fun
  | [d1, d2, d3] => { results := [.lit (.bool true)], args := [d1, d2, d3] }
  | _ => none }
def teloptAuthsRow : OpenClaim := { program := "ytcfhpoigfkljpaa", sum := "34cb3fc4fd13bdba9e621a2024af16c90805a5b562813157e12ea977ef57199c", func := "gangway/gangwaylaw22.TeloptAuths", spec := "teloptAuths", apart := false }
def TeloptAuthsSaid : Prop := teloptAuthsRow.holds Try.pinned (OpenSpec.ofChange teloptAuthsSpec)

/-- ITS FALSE NEIGHBOUR: 'it returns false'. Refute it at one input. -/
def teloptAuthsWrong : ChangeSpec := { name := "teloptAuths", fn := fun _ => fun
  | [d1, d2, d3] => { results := [.lit (.bool false)], args := [d1, d2, d3] }
  | _ => none }
def TeloptAuthsWrongFalsely : Prop := teloptAuthsRow.holds Try.pinned (OpenSpec.ofChange teloptAuthsWrong)

/-- 'gangwaylaw22.TeloptEscapes': WHATEVER THE INPUT: true; the input reads as it did. -/
def teloptEscapesSpec : ChangeSpec := { name := "teloptEscapes", fn := fun _ => fun
  | [d1, d2, d3] => { results := [.lit (.bool true)], args := [d1, d2, d3] }
  | _ => none }
def teloptEscapesRow : OpenClaim := { program := "ytcfhpoigfkljpaa", sum := "34cb3fc4fd13bdba9e621a2024af16c90805a5b562813157e12ea977ef57199c", func := "gangway/gangwaylaw22.TeloptEscapes", spec := "teloptEscapes", apart := false }
def TeloptEscapesSaid : Prop := teloptEscapesRow.holds Try.pinned (OpenSpec.ofChange teloptEscapesSpec)

/-- ITS FALSE NEIGHBOUR: 'it returns false'. Refute it at one input. -/
def teloptEscapesWrong : ChangeSpec := { name := "teloptEscapes", fn := fun _ => fun
  | [d1, d2, d3] => { results := [.lit (.bool false)], args := [d1, d2, d3] }
  | _ => none }
def TeloptEscapesWrongFalsely : Prop := teloptEscapesRow.holds Try.pinned (OpenSpec.ofChange teloptEscapesWrong)

/- THE SECOND FORM. 'bulk': how many values and letters a reading holds, each counted each time it is reached (what is shared counts as often as it is met; a slice's spare places count too). A statement '..UptoSaid' is the law's where the arguments, and the package variables that the reading takes, are together of bulk at most 1048576: NARROWER than '..Said'. Prove '..Said' where nothing that the law and all that it calls make is longer than what came in: it says more and counts as full. Else prove '..UptoSaid'. A law counts once. -/
mutual
def uptoBulk {H : Type} : DataW H → Nat
  | .lit (.string bytes) => bytes.length + 1
  | .lit _ => 1
  | .nil => 1
  | .ptr d => uptoBulk d + 1
  | .slice elems spare => uptoBulkAll elems + uptoBulkAll spare + 1
  | .agg parts => uptoBulkAll parts + 1
  | .iface _ d => uptoBulk d + 1
  | .map entries => uptoBulkEntries entries + 1
  | .held _ => 1
def uptoBulkAll {H : Type} : List (DataW H) → Nat
  | [] => 0
  | d :: r => uptoBulk d + uptoBulkAll r
def uptoBulkEntries {H : Type} : List (Lit × DataW H) → Nat
  | [] => 0
  | x :: r => uptoBulkEntry x + uptoBulkEntries r
def uptoBulkEntry {H : Type} : Lit × DataW H → Nat
  | (.string bytes, d) => bytes.length + uptoBulk d + 1
  | (_, d) => uptoBulk d + 1
 end
def uptoSmall : (H : Type) → List (DataW H) → Bool := fun _ ds => decide (uptoBulkAll ds ≤ 1048576)
def OpenSpec.upto (s : _root_.Go.ChangeSpec) : _root_.Go.OpenSpec := { _root_.Go.OpenSpec.ofChange s with cond := some uptoSmall }

/-- 'gangwaylaw22.TeloptWrites', WHERE WHAT IT READS IS OF BULK AT MOST 1048576: true; the input reads as it did. -/
def teloptWritesUptoRow : OpenClaim := { program := "ytcfhpoigfkljpaa", sum := "34cb3fc4fd13bdba9e621a2024af16c90805a5b562813157e12ea977ef57199c", func := "gangway/gangwaylaw22.TeloptWrites", spec := "teloptWrites", apart := false, narrowed := true }
def TeloptWritesUptoSaid : Prop := teloptWritesUptoRow.holds Try.pinned (OpenSpec.upto teloptWritesSpec)

/-- 'gangwaylaw22.TeloptFeeds', WHERE WHAT IT READS IS OF BULK AT MOST 1048576: true; the input reads as it did. -/
def teloptFeedsUptoRow : OpenClaim := { program := "ytcfhpoigfkljpaa", sum := "34cb3fc4fd13bdba9e621a2024af16c90805a5b562813157e12ea977ef57199c", func := "gangway/gangwaylaw22.TeloptFeeds", spec := "teloptFeeds", apart := false, narrowed := true }
def TeloptFeedsUptoSaid : Prop := teloptFeedsUptoRow.holds Try.pinned (OpenSpec.upto teloptFeedsSpec)

/-- 'gangwaylaw22.TeloptPieces', WHERE WHAT IT READS IS OF BULK AT MOST 1048576: true; the input reads as it did. -/
def teloptPiecesUptoRow : OpenClaim := { program := "ytcfhpoigfkljpaa", sum := "34cb3fc4fd13bdba9e621a2024af16c90805a5b562813157e12ea977ef57199c", func := "gangway/gangwaylaw22.TeloptPieces", spec := "teloptPieces", apart := false, narrowed := true }
def TeloptPiecesUptoSaid : Prop := teloptPiecesUptoRow.holds Try.pinned (OpenSpec.upto teloptPiecesSpec)

/-- 'gangwaylaw22.TeloptAuths', WHERE WHAT IT READS IS OF BULK AT MOST 1048576: true; the input reads as it did. -/
def teloptAuthsUptoRow : OpenClaim := { program := "ytcfhpoigfkljpaa", sum := "34cb3fc4fd13bdba9e621a2024af16c90805a5b562813157e12ea977ef57199c", func := "gangway/gangwaylaw22.TeloptAuths", spec := "teloptAuths", apart := false, narrowed := true }
def TeloptAuthsUptoSaid : Prop := teloptAuthsUptoRow.holds Try.pinned (OpenSpec.upto teloptAuthsSpec)

/-- 'gangwaylaw22.TeloptEscapes', WHERE WHAT IT READS IS OF BULK AT MOST 1048576: true; the input reads as it did. -/
def teloptEscapesUptoRow : OpenClaim := { program := "ytcfhpoigfkljpaa", sum := "34cb3fc4fd13bdba9e621a2024af16c90805a5b562813157e12ea977ef57199c", func := "gangway/gangwaylaw22.TeloptEscapes", spec := "teloptEscapes", apart := false, narrowed := true }
def TeloptEscapesUptoSaid : Prop := teloptEscapesUptoRow.holds Try.pinned (OpenSpec.upto teloptEscapesSpec)

end Rows
end Go.Proofs.Ytcfhpoigfkljpaa
