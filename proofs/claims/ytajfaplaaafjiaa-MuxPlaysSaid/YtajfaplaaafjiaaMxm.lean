/- The walk of text: so many bytes, that follow each other. -/
import Derived.Test.YtajfaplaaafjiaaMxl
namespace Go.Proofs.Ytajfaplaaafjiaa
open Go.RowKit

def textB (n fr : Nat) : List UInt8 := (List.range n).map (fun i => UInt8.ofNat (fr + i))
theorem textB_succ (n fr : Nat) : textB (n + 1) fr = textB n fr ++ [UInt8.ofNat (fr + n)] := by unfold textB; rw [List.range_succ, List.map_append]; rfl
theorem textB_len (n fr : Nat) : (textB n fr).length = n := by simp [textB]

set_option maxHeartbeats 2000000 in
theorem text_any (w : World) (n fr : Nat) (hn : n ≤ 100000) (hf : fr ≤ 100000) :
    Calls Try.prog 23 #[.int .i64 n, .int .i64 fr] w fun e w' => ∃ A c, e = .returned (.slice A n c) ∧ OwnB w' w.heap.size 5 (.slice A n c) (textB n fr) ∧ w.grownBy w' none := by
  go_enter Try.func23, Try.ntmps23
  go_wp2
  go_loopw [5, 6] (fun s5 s6 wr => ∃ (i : Nat) (A : Option Addr) (c : Nat), s5 = .slice A i c ∧ s6 = .int .i64 i ∧ i ≤ n ∧ OwnB wr w.heap.size 5 (.slice A i c) (textB i fr) ∧ w.grownBy wr none) (fun _ s6 _ => n - (intOf s6).toNat)
  case atStart => exact ⟨0, _, 0, rfl, rfl, Nat.zero_le _, OwnB.new0 _ _ _ (Nat.le_refl _), grown_alloc _ _ _⟩
  case round =>
    obtain ⟨i, A, c, rfl, rfl, hi, ho, hg⟩ := hrel
    by_cases hlt : i < n
    · have hki : (i : Int) < (n : Int) := by omega
      have HO := Lib.hid ho
      have HG := Lib.hid hg
      have hw1 : IntKind.i64.wrap ((fr : Int) + (i : Int)) = (fr : Int) + (i : Int) := by simp [IntKind.wrap, IntKind.bits, IntKind.signed]; omega
      clear ho hg
      go_wp2_with (at_builtin
                   refine wpList_appB byteT rfl (.tmp 13) (.tmp 18) rfl (HO.out.alloc _) (RB.new1 _ _ (UInt8.ofNat (fr + i)) _ ?ga _ (Nat.lt_succ_self _)) (by first | rfl | go_simp) (by first | rfl | go_simp) ?gb ?gc ?_
                   rotate_left 3
                   intro v1 w1 o1 g1 _ _
                   obtain ⟨A1, c1, hv1, -, -⟩ := o1.shape
                   rw [← textB_succ] at o1 hv1
                   rw [textB_len] at hv1
                   subst hv1
                   have O1 := Lib.hid o1
                   have G1 := Lib.hid (show w.grownBy w1 none from (Mod.none (S := fun k => w.heap.size ≤ k) ((Mod.made (grown_trans' HG.out (grown_alloc _ _ _))).grown g1 (fun z hz _ => ((HO.out.lt z hz).1))) (fun k hk e => by omega)))
                   clear o1 g1)
      go_roundw
      case rel => exact ⟨i + 1, _, _, rfl, by go_num, by omega, O1.out, G1.out⟩
      case measure => simp [intOf]; omega
      case ga => first | (simp; done) | (simp; omega)
      case gb => rw [textB_len]; simp; omega
      case gc => have := HG.out.size; rw [World.size_alloc]; omega
    · have hin : i = n := by omega
      subst hin
      go_wp2
      go_ret
      exact ⟨_, _, rfl, ho, hg⟩
end Go.Proofs.Ytajfaplaaafjiaa
