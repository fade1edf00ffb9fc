/- The walks of times and boxes of the document's answer. -/
import Derived.Test.YtbpkaaajcimcgabGfT
namespace Go.Proofs.Ytbpkaaajcimcgab
open Go.RowKit

theorem ofInt_i64 (a : Nat) (ha : a < 4611686018427387904) : (BitVec.ofInt 64 (a : Int)).toNat = a := by
  rw [BitVec.ofInt_natCast, BitVec.toNat_ofNat]
  exact Nat.mod_eq_of_lt (by omega)
theorem xor_i64 (a b : Nat) (ha : a < 4611686018427387904) (hb : b < 4611686018427387904) : bits .xor .i64 (a : Int) (b : Int) = ((a ^^^ b : Nat) : Int) := by
  have hx : a ^^^ b < 2 ^ 62 := Nat.xor_lt_two_pow (by omega) (by omega)
  show IntKind.i64.wrap ((BitVec.ofInt 64 (a : Int) ^^^ BitVec.ofInt 64 (b : Int)).toNat : Int) = _
  rw [BitVec.toNat_xor, ofInt_i64 a ha, ofInt_i64 b hb, IntKind.wrap_i64]
  omega

set_option maxHeartbeats 1000000 in
theorem times_any (a b : UInt8) (w : World) : Calls Try.prog 22 #[.int .u8 (a.toNat : Int), .int .u8 (b.toNat : Int)] w fun e w' => e = .returned (.int .u8 ((tms a b).toNat : Int)) ∧ w = w' := by
  have ha := a.toNat_lt
  have hb := b.toNat_lt
  go_enter Try.func22, Try.ntmps22
  go_wp2
  go_loop [5, 6, 7, 8] (fun x y o i => ∃ k : Nat, k ≤ 8 ∧ i = .int .i64 k ∧ x = .int .i64 ((itN a.toNat b.toNat k).1 : Int) ∧ y = .int .i64 ((itN a.toNat b.toNat k).2.1 : Int) ∧ o = .int .i64 ((itN a.toNat b.toNat k).2.2 : Int)) (fun _ _ _ i => 8 - (intOf i).toNat)
  case atStart => exact ⟨0, by omega, rfl, rfl, rfl, rfl⟩
  case round =>
    obtain ⟨k, hk, rfl, rfl, rfl, rfl⟩ := hrel
    obtain ⟨h1, h2, h3⟩ := itN_lt a.toNat b.toNat ha hb k
    by_cases hlt : k < 8
    · have HE := Lib.hid (show itN a.toNat b.toNat (k + 1) = (if 255 < (itN a.toNat b.toNat k).1 * 2 then (itN a.toNat b.toNat k).1 * 2 ^^^ 283 else (itN a.toNat b.toNat k).1 * 2, (itN a.toNat b.toNat k).2.1 / 2, if (itN a.toNat b.toNat k).2.1 % 2 = 1 then (itN a.toNat b.toNat k).2.2 ^^^ (itN a.toNat b.toNat k).1 else (itN a.toNat b.toNat k).2.2) from rfl)
      obtain ⟨x, hx⟩ : ∃ x, x = (itN a.toNat b.toNat k).1 := ⟨_, rfl⟩
      obtain ⟨y, hy⟩ : ∃ x, x = (itN a.toNat b.toNat k).2.1 := ⟨_, rfl⟩
      obtain ⟨o, ho⟩ : ∃ x, x = (itN a.toNat b.toNat k).2.2 := ⟨_, rfl⟩
      rw [← hx, ← hy, ← ho] at HE
      rw [← hx, ← hy, ← ho]
      rw [← hx] at h1
      rw [← hy] at h2
      rw [← ho] at h3
      clear hx hy ho
      have hki : (k : Int) < 8 := by omega
      have e1 := xor_i64 o x (by omega) (by omega)
      have e2 := xor_i64 (x * 2) 283 (by omega) (by omega)
      obtain ⟨t, ht⟩ : ∃ t, t = x * 2 := ⟨_, rfl⟩
      have w1 : (x : Int) * 2 = (t : Int) := by omega
      rw [← ht] at e2 HE
      have e2' : bits .xor .i64 (t : Int) 283 = ((t ^^^ 283 : Nat) : Int) := e2
      have ht2 : t < 512 := by omega
      obtain ⟨p, hp⟩ : ∃ p, p = o ^^^ x := ⟨_, rfl⟩
      obtain ⟨s, hs⟩ : ∃ p, p = t ^^^ 283 := ⟨_, rfl⟩
      rw [← hp] at e1 HE
      rw [← hs] at e2' HE
      have hy2 : ((y / 2 : Nat) : Int) = (y : Int) / 2 := by omega
      have HY2 := Lib.hid hy2
      clear ht hp hs e2 hy2
      by_cases c1 : y % 2 = 1
      · rw [if_pos c1] at HE
        have c1i : (y : Int) % 2 = 1 := by omega
        by_cases c2 : 255 < t
        · rw [if_pos c2] at HE
          have c2i : (255 : Int) < (t : Int) := by omega
          clear c1 c2
          go_wp2
          go_round
          case rel => exact ⟨k + 1, by omega, by go_num, by rw [HE.out], by rw [HE.out]; simp only; rw [HY2.out], by rw [HE.out]⟩
          case measure => simp [intOf]; omega
        · rw [if_neg c2] at HE
          have c2i : ¬ (255 : Int) < (t : Int) := by omega
          clear c1 c2
          go_wp2
          go_round
          case rel => exact ⟨k + 1, by omega, by go_num, by rw [HE.out], by rw [HE.out]; simp only; rw [HY2.out], by rw [HE.out]⟩
          case measure => simp [intOf]; omega
      · rw [if_neg c1] at HE
        have c1i : ((y : Int) % 2 == 1) = false := by rw [beq_eq_false_iff_ne]; omega
        by_cases c2 : 255 < t
        · rw [if_pos c2] at HE
          have c2i : (255 : Int) < (t : Int) := by omega
          clear c1 c2
          go_wp2
          go_round
          case rel => exact ⟨k + 1, by omega, by go_num, by rw [HE.out], by rw [HE.out]; simp only; rw [HY2.out], by rw [HE.out]⟩
          case measure => simp [intOf]; omega
        · rw [if_neg c2] at HE
          have c2i : ¬ (255 : Int) < (t : Int) := by omega
          clear c1 c2
          go_wp2
          go_round
          case rel => exact ⟨k + 1, by omega, by go_num, by rw [HE.out], by rw [HE.out]; simp only; rw [HY2.out], by rw [HE.out]⟩
          case measure => simp [intOf]; omega
    · obtain rfl : k = 8 := by omega
      have hr : ((itN a.toNat b.toNat 8).2.2 : Int) % 256 = ((tms a b).toNat : Int) := by rw [tms, UInt8.toNat_ofNat']; omega
      have hr2 : ((itN a.toNat b.toNat 8).2.2 : Int) = ((tms a b).toNat : Int) := by omega
      obtain ⟨z, hz⟩ : ∃ z, z = (tms a b).toNat := ⟨_, rfl⟩
      have hl : z < 256 := by rw [hz]; exact (tms a b).toNat_lt
      rw [hr2, ← hz]
      have HZ := Lib.hid hz
      clear hr hr2 h1 h2 h3 hz
      go_wp2
      go_ret
      exact ⟨by rw [← HZ.out]; rfl, rfl⟩
end Go.Proofs.Ytbpkaaajcimcgab
