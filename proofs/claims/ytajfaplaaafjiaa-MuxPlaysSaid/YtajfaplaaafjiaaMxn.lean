/- The walk of size. -/
import Derived.Test.YtajfaplaaafjiaaMxm
import Derived.Test.YtajfaplaaafjiaaFrn
namespace Go.Proofs.Ytajfaplaaafjiaa
open Go.RowKit

/-- How many bytes an Op writes. -/
def sizeN (z : Int) : Nat := (bits .and .i64 z 8191).toNat
theorem sizeN_eq (z : Int) : bits .and .i64 z 8191 = (sizeN z : Int) ∧ sizeN z < 8192 := by
  obtain ⟨m, h1, h2⟩ := and_low z 13 (by omega)
  have h3 : bits .and .i64 z 8191 = (m : Int) := h2
  have h4 : sizeN z = m := by unfold sizeN; rw [h3]; rfl
  rw [h3, h4]
  exact ⟨rfl, h1⟩
set_option maxHeartbeats 1000000 in
theorem size_any (w : World) (k s c z fc : Int) (A : Option Addr) (n cap : Nat) :
    Calls Try.prog 24 #[.agg #[.int .i64 k, .int .i64 s, .int .i64 c, .int .i64 z, .int .i64 fc, .slice A n cap]] w fun e w' => e = .returned (.int .i64 (bits .and .i64 z 8191)) ∧ w.grownBy w' none := by
  go_enter Try.func24, Try.ntmps24
  go_wp2
  go_ret
  exact ⟨rfl, grown_alloc _ _ _⟩
end Go.Proofs.Ytajfaplaaafjiaa
