/- The document's example of messages; the walk of KrbNames. -/
import Derived.Test.YtnaoagiphehcaaaDoorKrw
namespace Go.Proofs.YtnaoagiphehcaaaDoor
open Go.RowKit

/-- The example's message. -/
def mEx : Msg := ⟨7, ⟨#[]⟩, ⟨#[]⟩, 5, 0, 0, [], [], 66⟩
theorem mEx_ok : okK mEx = true := by decide +kernel
theorem mEx_bytes : bytesK mEx = [31, 0, 1, 7, 34, 0, 1, 5, 39, 0, 1, 66] := by decide +kernel
theorem mEx_lens : lensK mEx := by unfold lensK mEx; decide
theorem mEx_KM (w : World) : KM w w.heap.size mEx none 0 none 0 := ⟨RB.nil_ _ _, RB.nil_ _ _⟩
theorem kwrite_ex (w : World) (hM : ML w) : Calls Tryd.prog 31 #[.agg #[.int .i64 7, .string ⟨#[]⟩, .string ⟨#[]⟩, .int .u64 5, .int .i64 0, .int .i64 0, .slice none 0 0, .slice none 0 0, .int .i64 66]] w fun e w' =>
    ∃ A c, e = .returned (.tuple #[.slice A 12 c, .int .i64 0]) ∧ RB w' w'.heap.size A [31, 0, 1, 7, 34, 0, 1, 5, 39, 0, 1, 66] c ∧ w.grownBy w' none := by
  refine (kwrite_any mEx none 0 none 0 w.heap.size w hM (mEx_KM w) (Nat.le_refl _) (by decide) mEx_lens).mono ?_
  rintro e w' ⟨hg, h⟩
  rw [mEx_ok, if_pos rfl, mEx_bytes] at h
  obtain ⟨v, rfl, A, c, rfl, hr⟩ := h
  exact ⟨A, c, rfl, hr, hg⟩
set_option maxRecDepth 100000 in
set_option maxHeartbeats 1000000 in
theorem kspeaks_any (w : World) (hM : ML w) : Calls Tryd.prog 29 #[] w fun e w' => e = .returned (.bool true) ∧ w.grownBy w' none := by
  have HM := Lib.hid hM
  clear hM
  go_enter Tryd.func29, Tryd.ntmps29
  go_wp2_with (go_at_call 31; refine (kwrite_ex _ HM.out).mono ?_; rintro e w1 ⟨A, c, rfl, r, g⟩; have G1 := Lib.hid g; have q1 : (convert 26 9 (.slice A 12 c)).run Tryd.prog w1 = .ok (.string ⟨#[31, 0, 1, 7, 34, 0, 1, 5, 39, 0, 1, 66]⟩) w1 := run_strB byteT Tryd.underlying9 r; clear r g)
  go_ret
  exact ⟨rfl, G1.out⟩
theorem walk_KrbNames (w : World) (hM : ML w) : Calls Tryd.prog 6 #[] w fun e w' => e = .returned (.bool true) ∧ Below w.heap.size w w' := by
  have HM := Lib.hid hM
  clear hM
  go_enter Tryd.func6, Tryd.ntmps6
  go_wp2_with (go_at_call 29; refine (kspeaks_any _ HM.out).mono ?_; rintro e w1 ⟨rfl, g⟩; have G1 := Lib.hid g; clear g)
  go_ret
  exact ⟨rfl, below_of_none G1.out⟩
end Go.Proofs.YtnaoagiphehcaaaDoor
