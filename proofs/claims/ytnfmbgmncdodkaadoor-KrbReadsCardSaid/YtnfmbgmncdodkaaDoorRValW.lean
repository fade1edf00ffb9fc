/- The walks of Values and SameTexts of the document's answer. -/
import Derived.Test.YtnfmbgmncdodkaaDoorValW
namespace Go.Proofs.YtnfmbgmncdodkaaDoor
open Go.RowKit

theorem below_drewN {B : Nat} {a w : World} (h : Below B a w) (n : Nat) : Below B a (w.drewN n) := ⟨h.os, h.tape, h.output, h.size, h.block⟩

end Go.Proofs.YtnfmbgmncdodkaaDoor
