/- The walk of mux.New. -/
import Derived.Test.YtajfaplaaafjiaaMxf
namespace Go.Proofs.Ytajfaplaaafjiaa
open Go.RowKit

def nilV (_ : Nat) : Value := .slice none 0 0
def ch0 : Ch := ⟨[], 1024, false, false, [], 1024, 0, false⟩
def chZ : Ch := ⟨[], 0, false, false, [], 0, 0, false⟩
def newK (k i : Nat) : Ch := if i < k then ch0 else chZ
theorem newK_over {k : Nat} (hk : k < 4) : over (muxC nilV nilV (newK k)) (8 * k) (sideC (.slice none 0 0) (.slice none 0 0) ch0) = muxC nilV nilV (newK (k + 1)) := by
  match k, hk with
  | 0, _ => rfl
  | 1, _ => rfl
  | 2, _ => rfl
  | 3, _ => rfl
  | n + 4, h => omega
theorem newK_len (k : Nat) : (muxC nilV nilV (newK k)).length = 32 := rfl
theorem buildS (w : World) : (Instr.build 84 #[(1, .int .i64 1024), (5, .int .i64 1024)]).run Try.prog w = .ok (.agg (sideC (.slice none 0 0) (.slice none 0 0) ch0).toArray) w := by kernel_rfl
theorem buildM (w : World) : (Instr.build 87 #[]).run Try.prog w = .ok (.agg (muxC nilV nilV (newK 0)).toArray) w := by kernel_rfl
theorem szS : (Try.prog.info? 84).map (·.size) = some 8 := by kernel_rfl
theorem MX.new {w' : World} {base m : Nat} (hb : base ≤ m) (h : CB w' m 87 (muxC nilV nilV (newK 4))) : MX w' base m nilV nilV (fun _ => ch0) :=
  ⟨hb, h, fun i _ => OwnB.nil_ _ _ _, fun i _ => OwnB.nil_ _ _ _, fun i j g _ _ h => by simp [nilV, Value.ownBlock] at h, fun i j g _ _ h => by simp [nilV, Value.ownBlock] at h, fun i j g _ _ h => by simp [nilV, Value.ownBlock] at h⟩

set_option maxRecDepth 100000 in
set_option maxHeartbeats 2000000 in
theorem mnew_any (w : World) :
    Calls Try.prog 21 #[] w fun e w' => e = .returned (.pointer (some ⟨w.heap.size, 0, none⟩)) ∧ MX w' w.heap.size w.heap.size nilV nilV (fun _ => ch0) ∧ w.grownBy w' none := by
  go_enter Try.func21, Try.ntmps21
  go_wp2
  go_loopw [5] (fun i wr => ∃ k : Nat, i = .int .i64 k ∧ k ≤ 4 ∧ CB wr w.heap.size 87 (muxC nilV nilV (newK k)) ∧ w.grownBy wr none) (fun i _ => 4 - (intOf i).toNat)
  case atStart => exact ⟨0, rfl, by omega, CB.new w 87 (muxC nilV nilV (newK 0)), grown_alloc _ _ _⟩
  case round =>
    obtain ⟨k, rfl, hk, hc, hg⟩ := hrel
    by_cases hlt : k < 4
    · have hki : (k : Int) < 4 := by omega
      have HC := Lib.hid hc
      have HG := Lib.hid hg
      have hbs := buildS
      clear hc hg
      go_wp2_with (refine wpList_storeC (off := 8 * k) (p := sideC (.slice none 0 0) (.slice none 0 0) ch0) szS rfl (.tmp 13) (.tmp 10) rfl (.agg (sideC (.slice none 0 0) (.slice none 0 0) ch0).toArray) rfl (by decide) HC.out rfl (by rw [newK_len]; show 8 * k + 8 ≤ 32; omega) (by first | rfl | go_simp) (by first | rfl | go_simp) ?_; intro w3 h3 g3; rw [newK_over hlt] at h3; have C3 := Lib.hid h3; have G3 := Lib.hid g3; clear h3 g3)
      go_roundw
      case rel => exact ⟨k + 1, by go_num, by omega, C3.out, none_new HG.out G3.out (Nat.le_refl _)⟩
      case measure => simp [intOf]; omega
    · have hk4 : k = 4 := by omega
      subst hk4
      go_wp2
      go_ret
      exact ⟨rfl, MX.new (Nat.le_refl _) hc, hg⟩
end Go.Proofs.Ytajfaplaaafjiaa
