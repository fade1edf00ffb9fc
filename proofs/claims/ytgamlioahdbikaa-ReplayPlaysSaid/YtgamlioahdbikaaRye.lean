/- The examples of the document; the walk of ReplayFull. -/
import Derived.Test.YtgamlioahdbikaaRyd
import Derived.Laws.BitsLemmas
namespace Go.Proofs.Ytgamlioahdbikaa
open Go.RowKit Go.Maps

theorem i64_and15 (n : Int) : bits .and .i64 n 15 = n % 16 := by
  have h127 : (BitVec.ofInt 64 15).toNat = 2 ^ 4 - 1 := by decide
  have key : (BitVec.ofInt 64 n &&& BitVec.ofInt 64 15).toNat = (n % ((2 ^ 64 : Nat) : Int)).toNat % 2 ^ 4 := by
    rw [BitVec.toNat_and, BitVec.toNat_ofInt, h127, Nat.and_two_pow_sub_one_eq_mod]
  show IntKind.i64.wrap ((BitVec.ofInt 64 n &&& BitVec.ofInt 64 15).toNat : Nat) = n % 16
  rw [key, IntKind.wrap_i64]
  omega
theorem i64_and7 (n : Int) : bits .and .i64 n 7 = n % 8 := by
  have h127 : (BitVec.ofInt 64 7).toNat = 2 ^ 3 - 1 := by decide
  have key : (BitVec.ofInt 64 n &&& BitVec.ofInt 64 7).toNat = (n % ((2 ^ 64 : Nat) : Int)).toNat % 2 ^ 3 := by
    rw [BitVec.toNat_and, BitVec.toNat_ofInt, h127, Nat.and_two_pow_sub_one_eq_mod]
  show IntKind.i64.wrap ((BitVec.ofInt 64 n &&& BitVec.ofInt 64 7).toNat : Nat) = n % 8
  rw [key, IntKind.wrap_i64]
  omega

def z16 : List UInt8 := List.replicate 16 0
/-- A call of Seen with what it answers. -/
theorem seen_at (w : World) (c b : Nat) (s : St) (C : Array Value) (u : Au) (now : Int) (s' : St) (n : Int) (hC : C = (auC u).toArray) (h : CS w c b s) (hu : auOk u) (hn : I64 now) (hlen : s.M.length ≤ 1000000) (hr : seenOf s u now = (s', n)) :
    Calls Try.prog 12 #[.pointer (some ⟨c, 0, none⟩), .agg C, .int .i64 now] w fun e w' => e = .returned (.int .i64 n) ∧ CS w' c b s' ∧ w.grownBy w' (some b) := by
  subst hC
  have := seen_any w c b s u now h hu hn hlen
  rw [hr] at this
  exact this

set_option maxRecDepth 10000 in
set_option maxHeartbeats 1000000 in
theorem speaks_any (w : World) : Calls Try.prog 7 #[] w fun e w' => e = .returned (.bool true) ∧ w.grownBy w' none := by
  have ok1 : auOk ([], 110, 0, z16) := ⟨by simp, by simp [z16], by unfold I64; decide, by decide⟩
  have ok2 : auOk ([], 111, 0, z16) := ⟨by simp, by simp [z16], by unfold I64; decide, by decide⟩
  have OK1 := Lib.hid ok1
  have OK2 := Lib.hid ok2
  have I0 := Lib.hid (show I64 100 by unfold I64; omega)
  have I1 := Lib.hid (show I64 101 by unfold I64; omega)
  have R1 := Lib.hid (show seenOf ⟨[], true, 100⟩ ([], 110, 0, z16) 101 = (⟨[], true, 100⟩, 68) by unfold seenOf; rw [if_neg (by decide), if_pos (by decide)])
  have R2 := Lib.hid (show seenOf ⟨[], true, 100⟩ ([], 111, 0, z16) 101 = (⟨[([], 111, 0, z16)], true, 100⟩, 0) by unfold seenOf; rw [if_neg (by decide), if_neg (by decide), if_neg (by simp [keepA]), if_neg (by simp [keepA])]; rfl)
  have RR := Lib.hid (show restartOf ⟨[], false, 0⟩ 100 = ⟨[], true, 100⟩ by unfold restartOf; rw [if_pos (by decide)])
  have TK0 := Lib.hid True.intro
  clear ok1 ok2
  go_enter Try.func7, Try.ntmps7
  go_wp2_with (first
    | (go_at_call 9; refine (new_any 0 _).mono ?_; rintro e w1 ⟨rfl, h1, g1⟩; have H1 := Lib.hid h1; have G1 := Lib.hid g1; clear h1 g1)
    | (go_at_call 10; refine (restart_any _ _ _ _ 100 H1.out I0.out).mono ?_; rintro e w2 ⟨rfl, h2, wx, gx, g2⟩; rw [RR.out] at h2; have H2 := Lib.hid h2; have G2 := Lib.hid (none_new (none_new G1.out gx (Nat.le_refl _)) g2 (Nat.le_succ _)); clear h2 gx g2)
    | (go_at_call 12; have hx := TK0; clear hx; refine (seen_at _ _ _ _ _ ([], 110, 0, z16) 101 _ _ rfl H2.out OK1.out I1.out (by simp) R1.out).mono ?_; rintro e w3 ⟨rfl, h3, g3⟩; have H3 := Lib.hid h3; have G3 := Lib.hid (none_new G2.out g3 (Nat.le_refl _)); clear h3 g3 TK0)
    | (go_at_call 12; refine (seen_at _ _ _ _ _ ([], 111, 0, z16) 101 _ _ rfl H3.out OK2.out I1.out (by simp) R2.out).mono ?_; rintro e w4 ⟨rfl, h4, g4⟩; have H4 := Lib.hid h4; have G4 := Lib.hid (none_new G3.out g4 (Nat.le_refl _)); clear h4 g4)
    | (go_at_call 14; refine (len_any _ _ _ _ H4.out).mono ?_; rintro e w5 ⟨rfl, rfl⟩))
  go_ret
  exact ⟨rfl, G4.out⟩
end Go.Proofs.Ytgamlioahdbikaa
