/- The walks of Same, of the program and of the document. -/
import Derived.Test.YtnfmbgmncdodkaaDoorRs
import Derived.Test.YtnfmbgmncdodkaaDoorShf
import Derived.BigRegion
namespace Go.Proofs.YtnfmbgmncdodkaaDoor
open Go.RowKit

def sameOf (ls1 : List ByteArray) (r1 : ByteArray) (ls2 : List ByteArray) (r2 : ByteArray) : Bool := decide (r1 = r2) && decide (ls1 = ls2)
theorem str_ne {a b : ByteArray} (h : a ≠ b) : (a.toList == b.toList) = false := by
  rw [beq_eq_false_iff_ne, ByteArray.toList_eq, ByteArray.toList_eq]
  intro e
  exact h (ByteArray.ext (Array.ext' e))
theorem getD_of {ls : List ByteArray} {j : Nat} (h : j < ls.length) : ls.getD j ByteArray.empty = ls[j] := by simp [List.getD, List.getElem?_eq_getElem h]
theorem nbelow_drewN {B : Nat} {w w' : World} (h : Below B w w') (q : Nat) : Below B w (w'.drewN q) := h.trans ⟨rfl, rfl, rfl, Nat.le_refl _, fun _ _ => rfl⟩

end Go.Proofs.YtnfmbgmncdodkaaDoor
namespace Go.Proofs.YtnfmbgmncdodkaaDoor
open Go.RowKit

theorem yields_cell1 {P : Program} {ops : Array Oper} {S : World → Prop} {oi : Oper} {a : Act} {ty : TypeId} (hag : ∀ w, (isAgg ty).run P w = .ok false w) (x : Operand) (ho : oi.op = .load ty x) (hw : Region.wanted oi (yielded ops a.tmps) = true)
    {ad : Addr} {v : Value} (h : ∀ wx, S wx → wx.cell? ad = some v) (hx : a.eval x = .pointer (some ad)) : YieldsIf P ops S oi v a := by
  refine .inl ⟨hw, fun wx hS => ?_⟩
  have hc := h wx hS
  unfold execOp
  simp only [ho, hx]
  simp [go_sem, hag, hc]
theorem bytes_eq {a : ByteArray} {l : List UInt8} (h : a.data.toList = l) : a = ⟨l.toArray⟩ := by
  subst h
  simp
end Go.Proofs.YtnfmbgmncdodkaaDoor
