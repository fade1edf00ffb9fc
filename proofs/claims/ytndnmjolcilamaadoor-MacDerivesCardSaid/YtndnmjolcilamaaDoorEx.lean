/- The example of the document, reckoned. -/
import Derived.Test.YtndnmjolcilamaaDoorMs
namespace Go.Proofs.YtndnmjolcilamaaDoor
def exA : List UInt8 := [74, 101, 102, 101]
def exB : List UInt8 := [119, 104, 97, 116, 32, 100, 111, 32, 121, 97, 32, 119, 97, 110, 116, 32, 102, 111, 114, 32, 110, 111, 116, 104, 105, 110, 103, 63]
theorem ex_len : exA.length = 4 ∧ exB.length = 28 := ⟨rfl, rfl⟩
set_option maxRecDepth 100000 in
theorem ex_mac : (macOf exA exB).take 4 = [91, 220, 193, 70] := by decide +kernel
end Go.Proofs.YtndnmjolcilamaaDoor
