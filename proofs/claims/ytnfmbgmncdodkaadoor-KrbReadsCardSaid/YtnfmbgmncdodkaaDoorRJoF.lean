/- The walks of Field and Join of the document's answer. -/
import Derived.Test.YtnfmbgmncdodkaaDoorRSpW
namespace Go.Proofs.YtnfmbgmncdodkaaDoor
open Go.RowKit

end Go.Proofs.YtnfmbgmncdodkaaDoor
