/- The walk of control. -/
import Derived.Test.YtajfaplaaafjiaaMxi
namespace Go.Proofs.Ytajfaplaaafjiaa
open Go.RowKit

theorem OwnB.new4 (w : World) (base : Nat) (t : TypeId) (u1 u2 u3 u4 : UInt8) (x1 x2 x3 x4 : Int) (h1 : x1 = (u1.toNat : Int)) (h2 : x2 = (u2.toNat : Int)) (h3 : x3 = (u3.toNat : Int)) (h4 : x4 = (u4.toNat : Int)) (hb : base ≤ w.heap.size) :
    OwnB (w.alloc (.cells #[.int .u8 x1, .int .u8 x2, .int .u8 x3, .int .u8 x4] t)) base t (.slice (some ⟨w.heap.size, 0, none⟩) 4 4) [u1, u2, u3, u4] := by
  subst h1 h2 h3 h4
  exact ⟨by simp [bcells_length], .inr ⟨w.heap.size, 4, _, rfl, hb, heap_alloc_new w _, Nat.le_refl _, by simp [maxLen], by simp, by simp [bcells]⟩⟩

def ctlB (kd ch n : Nat) : List UInt8 := [UInt8.ofNat kd, UInt8.ofNat ch, UInt8.ofNat (n / 256), UInt8.ofNat (n % 256)]

set_option maxRecDepth 100000 in
set_option maxHeartbeats 2000000 in
theorem control_any (w : World) (kd ch n : Nat) (hk : kd < 256) (hc : ch < 256) (hn : n < 65536) :
    Calls Try.prog 52 #[.int .u8 kd, .int .i64 ch, .int .i64 n] w fun e w' => ∃ A c, e = .returned (.agg #[.int .i64 4, .slice A 4 c]) ∧ OwnB w' w.heap.size 5 (.slice A 4 c) (ctlB kd ch n) ∧ w.grownBy w' none := by
  go_enter Try.func52, Try.ntmps52
  go_wp2
  refine bodyPost_ret (results_C1 rfl _ aggF (cs := [.int .i64 4, .slice (some ⟨w.heap.size + 1, 0, none⟩) 4 4]) (g := w.heap.size) (t := 24) ((CB.new w _ _).alloc _) rfl rfl) rfl ?_
  refine ⟨_, _, rfl, ?_, grown_trans' (grown_alloc _ _ _) (grown_alloc _ _ _)⟩
  have h := OwnB.new4 (w.alloc (.cells #[.int .i64 4, .slice (some ⟨w.heap.size + 1, 0, none⟩) 4 4] 24)) w.heap.size 5 (UInt8.ofNat kd) (UInt8.ofNat ch) (UInt8.ofNat (n / 256)) (UInt8.ofNat (n % 256)) kd ch ((n : Int) / 256) ((n : Int) % 256)
    (by first | (simp; done) | (simp; omega)) (by first | (simp; done) | (simp; omega)) (by first | (simp; done) | (simp; omega)) (by first | (simp; done) | (simp; omega)) (by simp)
  rw [World.size_alloc] at h
  exact h
end Go.Proofs.Ytajfaplaaafjiaa
