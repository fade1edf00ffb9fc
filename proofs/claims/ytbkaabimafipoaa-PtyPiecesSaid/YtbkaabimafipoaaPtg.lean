/- The walk of speaks. -/
import Derived.Test.YtbkaabimafipoaaPtf
import Derived.Lib.SlBytesConst
namespace Go.Proofs.Ytbkaabimafipoaa
open Go.ChangeShapes Go.WideShapes Go.RowKit

theorem rb5 (w : World) (t : TypeId) (f : Nat × Nat) : RB (w.alloc (.cells #[.int .u8 108, .int .u8 115, .int .u8 120, .int .u8 127, .int .u8 13] t f)) (w.alloc (.cells #[.int .u8 108, .int .u8 115, .int .u8 120, .int .u8 127, .int .u8 13] t f)).heap.size (some ⟨w.heap.size, 0, none⟩) [108, 115, 120, 127, 13] 5 :=
  RB.newm w t f [108, 115, 120, 127, 13] (by simp [maxLen]) _ (by rw [World.size_alloc]; omega)
theorem rs1 (w : World) (t : TypeId) (s : ByteArray) : RS (w.alloc (.cells #[.string s] t)) (w.alloc (.cells #[.string s] t)).heap.size (some ⟨w.heap.size, 0, none⟩) [s] 1 := by
  refine ⟨Nat.le_refl _, by simp [maxLen], .inr ⟨_, rfl, fun k u hu => ?_⟩⟩
  match k, hu with
  | 0, hu =>
    simp at hu
    subst hu
    exact ⟨by rw [World.size_alloc]; exact Nat.lt_succ_self _, cell_heap (heap_alloc_new w _) 0⟩
  | k + 1, hu => simp at hu
/-- What is made, or made by a Feed of what was made, keeps all that was there. -/
theorem none_feed {w x y : World} {base p : Nat} {v : Value} {s : Tm} (hg : w.grownBy x none) (hR : PT x base p v s) (hb : w.heap.size ≤ base) (hM : Mod (rdS p v) x y) : w.grownBy y none :=
  ⟨hM.os.trans hg.os, hM.tape.trans hg.tape, hM.output.trans hg.output, Nat.le_trans hg.size hM.size, fun k hk _ => (hM.block k (Nat.lt_of_lt_of_le hk hg.size) (fun e => by
    rcases e with e | e
    · have := hR.1; omega
    · have := (hR.vlt k e).1; omega)).trans (hg.block k hk (fun e => by cases e))⟩
theorem grown_drewN {a b : World} {r : Option Nat} (h : a.grownBy b r) (n : Nat) : a.grownBy (b.drewN n) r := ⟨h.os, h.tape, h.output, h.size, h.block⟩
theorem RS.take_drewN {w : World} {B : Nat} {A : Option Addr} {ls : List ByteArray} {c : Nat} (h : RS w B A ls c) (n : Nat) : RS (w.drewN n) B A ls c := h

set_option maxHeartbeats 2000000 in
theorem speaks_any (w : World) : Calls Try.prog 7 #[] w fun e w' => e = .returned (.bool true) ∧ w.grownBy w' none := by
  have kc := fun (w : World) (C : Array Value) (n c : Nat) => Lib.run_convert_bytes_const (P := Try.prog) w 30 5 C n c Try.underlying30 Try.underlying5
  go_enter Try.func7, Try.ntmps7
  go_wp2_with (first
    | (go_at_call 9; refine (new_any _).mono ?_; rintro e w1 ⟨rfl, p1, g1⟩; have P1 := Lib.hid p1; have G1 := Lib.hid g1; clear p1 g1)
    | (go_at_call 10; refine (feed_any (P1.out.made (grown_alloc _ _ none)) (by rw [World.size_alloc]; have := G1.out.size; omega) _ [108, 115, 120, 127, 13] 5 5 rfl (rb5 _ _ _) (fun a ha _ => by injection ha with ha; subst ha; exact ⟨by have := P1.out.lt.2; simp; omega, by simp [Value.ownBlock]⟩) (by omega) (by simp) (by simp)).mono ?_; rintro e w2 ⟨v2, sv, lv, rfl, p2, o2, s2, m2, n2, a2⟩; rw [fdF_ls] at o2 s2; obtain ⟨A1, c1, rfl, r1, -⟩ := o2.shape; obtain ⟨A2, c2, rfl, r2, -⟩ := s2.shape; have R1 := Lib.hid r1; have R2 := Lib.hid r2; have G2 := Lib.hid (none_feed (grown_trans' G1.out (grown_alloc _ _ none)) (P1.out.made (grown_alloc _ _ none)) (Nat.le_refl _) m2); clear p2 o2 s2 m2 n2 a2 r1 r2)
    | (refine wpList_convR rfl (.tmp 14) rfl (u := .slice A1 8 c1) (v := .string ⟨#[108, 115, 120, 8, 32, 8, 13, 10]⟩) (by first | rfl | go_simp) (run_strB byteT strTy R1.out) ?_)
    | (go_at_call 12; refine (same_true _ _ _ [sb [108, 115]] 1 _ _ _ _ rfl (R2.out.alloc (Nat.le_refl _) _) (rs1 _ _ _) (by omega)).mono ?_; rintro e w3 ⟨rfl, m3, rfl⟩))
  go_ret
  exact ⟨rfl, grown_drewN (grown_trans' G2.out (grown_alloc _ _ _)) _⟩
end Go.Proofs.Ytbkaabimafipoaa
