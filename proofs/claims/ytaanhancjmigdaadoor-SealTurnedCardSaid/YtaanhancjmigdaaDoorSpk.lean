/- The walk of the examples of the document. -/
import Derived.Test.YtaanhancjmigdaaDoorFld
import Derived.Lib.SlBytesConst
namespace Go.Proofs.YtaanhancjmigdaaDoor
open Go.RowKit

theorem RF.new1 (w w0 : World) (t : TypeId) (x : Int) (V : Option Addr) (v : List UInt8) (c n : Nat) (hn : n = v.length) (B : Nat) (hB : w.heap.size < B) (hr : RB w w.heap.size V v c)
    (hw : w0 = w.alloc (.cells #[.int .i64 x, .slice V n c] t)) : RF w0 B (some ⟨w.heap.size, 0, none⟩) [(x, v)] 1 := by
  subst hn hw
  refine ⟨Nat.le_refl _, by simp [maxLen], .inr ⟨_, rfl, fun k f hf => ⟨hB, ?_⟩⟩⟩
  match k, hf with
  | 0, hf =>
    simp at hf
    subst hf
    refine ⟨by simp [Addr.add], V, c, by simp [Addr.add], (hr.alloc (Nat.le_refl _) _).more (Nat.le_of_lt hB)⟩
  | k + 1, hf => simp at hf

theorem num_at (x : Int) (n : Nat) (hx : x = (n : Int)) (w : World) (hn : n < 18446744073709551616) :
    Calls Tryd.prog 36 #[.int .u64 x] w fun e w' => ∃ v, e = .returned v ∧ OwnB w' w.heap.size 5 v (numB n) ∧ Below w.heap.size w w' := by
  subst hx
  exact num_any n w hn

end Go.Proofs.YtaanhancjmigdaaDoor
