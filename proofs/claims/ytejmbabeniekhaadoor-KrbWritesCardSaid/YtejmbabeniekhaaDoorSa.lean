/- The walks of Same, of the program and of the document. -/
import Derived.Test.YtejmbabeniekhaaDoorRr
import Derived.Test.YtejmbabeniekhaaDoorShf
import Derived.BigRegion
namespace Go.Proofs.YtejmbabeniekhaaDoor
open Go.RowKit

def sameOf (ls1 : List ByteArray) (r1 : ByteArray) (ls2 : List ByteArray) (r2 : ByteArray) : Bool := decide (r1 = r2) && decide (ls1 = ls2)
theorem str_ne {a b : ByteArray} (h : a ≠ b) : (a.toList == b.toList) = false := by
  rw [beq_eq_false_iff_ne, ByteArray.toList_eq, ByteArray.toList_eq]
  intro e
  exact h (ByteArray.ext (Array.ext' e))
theorem getD_of {ls : List ByteArray} {j : Nat} (h : j < ls.length) : ls.getD j ByteArray.empty = ls[j] := by simp [List.getD, List.getElem?_eq_getElem h]
theorem nbelow_drewN {B : Nat} {w w' : World} (h : Below B w w') (q : Nat) : Below B w (w'.drewN q) := h.trans ⟨rfl, rfl, rfl, Nat.le_refl _, fun _ _ => rfl⟩

end Go.Proofs.YtejmbabeniekhaaDoor
