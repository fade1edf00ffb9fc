/- The walk of TlvNames. -/
import Derived.Test.YtmkdcnhhcfblgaaSpk
namespace Go.Proofs.Ytmkdcnhhcfblgaa
open Go.RowKit
set_option maxHeartbeats 400000 in
theorem walk_TlvNames (w : World) : Calls Try.prog 3 #[] w fun e w' => e = .returned (.bool true) ∧ Below w.heap.size w w' := by
  go_enter Try.func3, Try.ntmps3
  go_wp2_with (go_at_call 10; refine (speaks_any _).mono ?_; rintro e w1 ⟨rfl, hb1⟩)
  go_ret
  exact ⟨rfl, hb1⟩
end Go.Proofs.Ytmkdcnhhcfblgaa
