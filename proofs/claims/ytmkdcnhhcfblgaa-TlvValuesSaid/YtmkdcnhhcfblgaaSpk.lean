/- The walk of the examples of the document. -/
import Derived.Test.YtmkdcnhhcfblgaaFld
import Derived.Lib.SlBytesConst
namespace Go.Proofs.Ytmkdcnhhcfblgaa
open Go.RowKit

theorem RF.new1 (w w0 : World) (t : TypeId) (x : Int) (V : Option Addr) (v : List UInt8) (c n : Nat) (hn : n = v.length) (B : Nat) (hB : w.heap.size < B) (hr : RB w w.heap.size V v c)
    (hw : w0 = w.alloc (.cells #[.int .i64 x, .slice V n c] t)) : RF w0 B (some ⟨w.heap.size, 0, none⟩) [(x, v)] 1 := by
  subst hn hw
  refine ⟨Nat.le_refl _, by simp [maxLen], .inr ⟨_, rfl, fun k f hf => ⟨hB, ?_⟩⟩⟩
  match k, hf with
  | 0, hf =>
    simp at hf
    subst hf
    refine ⟨by simp [Addr.add], V, c, by simp [Addr.add], (hr.alloc (Nat.le_refl _) _).more (Nat.le_of_lt hB)⟩
  | k + 1, hf => simp at hf

theorem num_at (x : Int) (n : Nat) (hx : x = (n : Int)) (w : World) (hn : n < 18446744073709551616) :
    Calls Try.prog 22 #[.int .u64 x] w fun e w' => ∃ v, e = .returned v ∧ OwnB w' w.heap.size 5 v (numB n) ∧ Below w.heap.size w w' := by
  subst hx
  exact num_any n w hn

theorem join_at (A : Option Addr) (fs : List Fd) (n cap : Nat) (w : World) (hn : fs.length = n) (h : RF w w.heap.size A fs cap) (ht : ∀ f ∈ fs, -9223372036854775808 ≤ f.1 ∧ f.1 ≤ 9223372036854775807) (hs : tot fs ≤ 1000000000) :
    Calls Try.prog 13 #[.slice A n cap] w fun e w' => ∃ v, e = .returned (.tuple #[v, .int .i64 (joinOf fs []).2]) ∧ OwnB w' w.heap.size 5 v (joinOf fs []).1 ∧ Below w.heap.size w w' := by
  subst hn
  exact join_any A fs cap w h ht hs

set_option maxHeartbeats 400000 in
theorem speaks_any (w : World) : Calls Try.prog 10 #[] w fun e w' => e = .returned (.bool true) ∧ Below w.heap.size w w' := by
  have hb0 := RB.newm w 5 (2, 3) [104, 105] (by simp [maxLen]) (w.heap.size + 1) (by omega)
  have kc := fun (w : World) (C : Array Value) (n c : Nat) => Lib.run_convert_bytes_const (P := Try.prog) w 26 5 C n c Try.underlying26 Try.underlying5
  go_enter Try.func10, Try.ntmps10
  go_wp2_with fail
  have hrf := RF.new1 _ _ 54 5 _ _ 2 2 rfl (w.heap.size + 2) (by simp) (hb0.more (by simp)) rfl
  rw [World.size_alloc] at hrf
  have hJ := fun W h => join_at (some ⟨w.heap.size + 1, 0, none⟩) [(5, [104, 105])] 1 1 W rfl h (by simp) (by simp [tot])
  refine (hJ _ ?hrf).mono ?_
  case hrf => exact hrf.more (by simp)
  rintro e w1 ⟨v, rfl, hown, hb1⟩
  have hj : joinOf [(5, [104, 105])] [] = ([5, 0, 2, 104, 105], 0) := by decide +kernel
  rw [hj] at hown
  obtain ⟨A, c, rfl, hr, _⟩ := hown.shape
  have hbw : Below w.heap.size w w1 := (((Below.refl _ _).alloc (Nat.le_refl _) _).alloc (by simp) _).trans (hb1.mono (by simp; omega))
  have hs1 : (convert 26 9 (.slice A 5 c)).run Try.prog w1 = .ok (.string ⟨#[5, 0, 2, 104, 105]⟩) w1 := run_strB byteT Try.underlying9 hr
  clear hrf hb0 hown hr hb1 hj
  have hn : numB 256 = [1, 0] := by decide +kernel
  have hN := Lib.hid (num_at 256 256 rfl w1 (by omega))
  rw [hn] at hN
  clear hn
  go_wp2_with fail
  refine hN.out.mono ?_
  rintro e w2 ⟨v2, rfl, hown2, hb2⟩
  obtain ⟨A2, c2, rfl, hr2, _⟩ := hown2.shape
  have hs2 : (convert 26 9 (.slice A2 2 c2)).run Try.prog w2 = .ok (.string ⟨#[1, 0]⟩) w2 := run_strB byteT Try.underlying9 hr2
  have hbw2 := hbw.trans (hb2.mono hbw.size)
  clear hown2 hr2 hb2
  go_wp2
  go_ret
  exact ⟨rfl, hbw2⟩
end Go.Proofs.Ytmkdcnhhcfblgaa
