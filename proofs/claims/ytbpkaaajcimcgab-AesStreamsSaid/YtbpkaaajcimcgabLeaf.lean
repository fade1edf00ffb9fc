/- The walks of double, mixed, RotateLeft8 and mixBits. -/
import Derived.Test.YtbpkaaajcimcgabBlw
import Derived.Test.YtbpkaaajcimcgabProg
namespace Go.Proofs.Ytbpkaaajcimcgab
open Go.RowKit

def dbl (b : UInt8) : UInt8 := (b <<< 1) ^^^ ((b >>> 7) * 27)
def mixd (a b c d : UInt8) : UInt8 := dbl (a ^^^ b) ^^^ b ^^^ c ^^^ d
def rotl (b : UInt8) (k : Nat) : UInt8 := (b <<< UInt8.ofNat k) ||| (b >>> UInt8.ofNat (8 - k))
def mixB (b : UInt8) : UInt8 := b ^^^ 99 ^^^ rotl b 1 ^^^ rotl b 2 ^^^ rotl b 3 ^^^ rotl b 4

theorem forall_u8 {p : UInt8 → Prop} (h : ∀ n, n < 256 → p (UInt8.ofNat n)) (b : UInt8) : p b := by
  have := h b.toNat b.toNat_lt
  rwa [UInt8.ofNat_toNat] at this

theorem dbl_bits (b : UInt8) : bits .xor .u8 ((b.toNat : Int) * 2 % 256) ((b.toNat : Int) / 128 * 27) = ((dbl b).toNat : Int) :=
  forall_u8 (p := fun b => bits .xor .u8 ((b.toNat : Int) * 2 % 256) ((b.toNat : Int) / 128 * 27) = ((dbl b).toNat : Int)) (by decide +kernel) b

theorem double_any (b : UInt8) (w : World) : Calls Try.prog 24 #[.int .u8 (b.toNat : Int)] w fun e w' => e = .returned (.int .u8 ((dbl b).toNat : Int)) ∧ w = w' := by
  have hb := b.toNat_lt
  have hx := dbl_bits b
  go_enter Try.func24, Try.ntmps24
  go_wp2
  go_ret
  exact ⟨rfl, rfl⟩

theorem mixed_any (a b c d : UInt8) (w : World) : Calls Try.prog 27 #[.int .u8 (a.toNat : Int), .int .u8 (b.toNat : Int), .int .u8 (c.toNat : Int), .int .u8 (d.toNat : Int)] w fun e w' => e = .returned (.int .u8 ((mixd a b c d).toNat : Int)) ∧ w = w' := by
  obtain ⟨x, hx⟩ : ∃ x, x = a ^^^ b := ⟨_, rfl⟩
  obtain ⟨y, hy⟩ : ∃ y, y = dbl x := ⟨_, rfl⟩
  obtain ⟨z1, hz1⟩ : ∃ z, z = y ^^^ b := ⟨_, rfl⟩
  obtain ⟨z2, hz2⟩ : ∃ z, z = z1 ^^^ c := ⟨_, rfl⟩
  obtain ⟨z3, hz3⟩ : ∃ z, z = z2 ^^^ d := ⟨_, rfl⟩
  have h1 := xor_u8 a b
  have h2 := xor_u8 y b
  have h3 := xor_u8 z1 c
  have h4 := xor_u8 z2 d
  rw [← hx] at h1
  rw [← hz1] at h2
  rw [← hz2] at h3
  rw [← hz3] at h4
  have hd := fun W => double_any x W
  rw [← hy] at hd
  have HD := Lib.hid hd
  have hr : mixd a b c d = z3 := by rw [hz3, hz2, hz1, hy, hx]; rfl
  rw [hr]
  clear hr hd hx hy hz1 hz2 hz3
  go_enter Try.func27, Try.ntmps27
  go_wp2_with (go_at_call 24; refine (HD.out _).mono ?_; rintro e w1 ⟨rfl, rfl⟩)
  go_ret
  exact ⟨rfl, rfl⟩

theorem rot1_any (b : UInt8) (w : World) : Calls Try.prog 28 #[.int .u8 (b.toNat : Int), .int .i64 1] w fun e w' => e = .returned (.int .u8 ((rotl b 1).toNat : Int)) ∧ w = w' := by
  have hb := b.toNat_lt
  have ha : bits .and .u64 1 7 = 1 := by decide +kernel
  have hx : bits .or .u8 ((b.toNat : Int) * 2 % 256) ((b.toNat : Int) / 128) = ((rotl b 1).toNat : Int) :=
    forall_u8 (p := fun b => bits .or .u8 ((b.toNat : Int) * 2 % 256) ((b.toNat : Int) / 128) = ((rotl b 1).toNat : Int)) (by decide +kernel) b
  go_enter Try.func28, Try.ntmps28
  go_wp2
  go_ret
  exact ⟨rfl, rfl⟩
theorem rot2_any (b : UInt8) (w : World) : Calls Try.prog 28 #[.int .u8 (b.toNat : Int), .int .i64 2] w fun e w' => e = .returned (.int .u8 ((rotl b 2).toNat : Int)) ∧ w = w' := by
  have hb := b.toNat_lt
  have ha : bits .and .u64 2 7 = 2 := by decide +kernel
  have hx : bits .or .u8 ((b.toNat : Int) * 4 % 256) ((b.toNat : Int) / 64) = ((rotl b 2).toNat : Int) :=
    forall_u8 (p := fun b => bits .or .u8 ((b.toNat : Int) * 4 % 256) ((b.toNat : Int) / 64) = ((rotl b 2).toNat : Int)) (by decide +kernel) b
  go_enter Try.func28, Try.ntmps28
  go_wp2
  go_ret
  exact ⟨rfl, rfl⟩
theorem rot3_any (b : UInt8) (w : World) : Calls Try.prog 28 #[.int .u8 (b.toNat : Int), .int .i64 3] w fun e w' => e = .returned (.int .u8 ((rotl b 3).toNat : Int)) ∧ w = w' := by
  have hb := b.toNat_lt
  have ha : bits .and .u64 3 7 = 3 := by decide +kernel
  have hx : bits .or .u8 ((b.toNat : Int) * 8 % 256) ((b.toNat : Int) / 32) = ((rotl b 3).toNat : Int) :=
    forall_u8 (p := fun b => bits .or .u8 ((b.toNat : Int) * 8 % 256) ((b.toNat : Int) / 32) = ((rotl b 3).toNat : Int)) (by decide +kernel) b
  go_enter Try.func28, Try.ntmps28
  go_wp2
  go_ret
  exact ⟨rfl, rfl⟩
theorem rot4_any (b : UInt8) (w : World) : Calls Try.prog 28 #[.int .u8 (b.toNat : Int), .int .i64 4] w fun e w' => e = .returned (.int .u8 ((rotl b 4).toNat : Int)) ∧ w = w' := by
  have hb := b.toNat_lt
  have ha : bits .and .u64 4 7 = 4 := by decide +kernel
  have hx : bits .or .u8 ((b.toNat : Int) * 16 % 256) ((b.toNat : Int) / 16) = ((rotl b 4).toNat : Int) :=
    forall_u8 (p := fun b => bits .or .u8 ((b.toNat : Int) * 16 % 256) ((b.toNat : Int) / 16) = ((rotl b 4).toNat : Int)) (by decide +kernel) b
  go_enter Try.func28, Try.ntmps28
  go_wp2
  go_ret
  exact ⟨rfl, rfl⟩

/-- What mixBits has behind n - 1 rounds. -/
def mixBn (b : UInt8) : Nat → UInt8
  | 0 => b ^^^ 99
  | n + 1 => mixBn b n ^^^ rotl b (n + 1)
theorem mixBits_any (b : UInt8) (w : World) : Calls Try.prog 25 #[.int .u8 (b.toNat : Int)] w fun e w' => e = .returned (.int .u8 ((mixB b).toNat : Int)) ∧ w = w' := by
  have h0 := xor_u8 b 99
  rw [show b ^^^ 99 = mixBn b 0 from rfl] at h0
  have hr : mixB b = mixBn b 4 := rfl
  rw [hr]
  clear hr
  have h0' : bits .xor .u8 (b.toNat : Int) 99 = ((mixBn b 0).toNat : Int) := h0
  clear h0
  go_enter Try.func25, Try.ntmps25
  go_wp2
  clear h0'
  go_loop [3, 4] (fun x i => ∃ k : Nat, k ≤ 4 ∧ i = .int .i64 ((k : Int) + 1) ∧ x = .int .u8 ((mixBn b k).toNat : Int)) (fun _ i => 5 - (intOf i).toNat)
  case atStart => exact ⟨0, by omega, rfl, rfl⟩
  case round =>
    obtain ⟨k, hk, rfl, rfl⟩ := hrel
    by_cases hlt : k < 4
    · have hx := xor_u8 (mixBn b k) (rotl b (k + 1))
      rw [show mixBn b k ^^^ rotl b (k + 1) = mixBn b (k + 1) from rfl] at hx
      have hc : ∀ W, Calls Try.prog 28 #[.int .u8 (b.toNat : Int), .int .i64 ((k : Int) + 1)] W fun e w' => e = .returned (.int .u8 ((rotl b (k + 1)).toNat : Int)) ∧ W = w' := by
        intro W
        rcases (by omega : k = 0 ∨ k = 1 ∨ k = 2 ∨ k = 3) with rfl | rfl | rfl | rfl
        · exact rot1_any b W
        · exact rot2_any b W
        · exact rot3_any b W
        · exact rot4_any b W
      have HC := Lib.hid hc
      clear hc
      obtain ⟨y, hy⟩ : ∃ y, y = mixBn b (k + 1) := ⟨_, rfl⟩
      obtain ⟨z, hz⟩ : ∃ z, z = rotl b (k + 1) := ⟨_, rfl⟩
      obtain ⟨v, hv⟩ : ∃ v, v = mixBn b k := ⟨_, rfl⟩
      rw [← hy, ← hz, ← hv] at hx
      rw [← hz] at HC
      rw [← hv]
      have HY := Lib.hid hy
      clear hz hv hy
      go_wp2_with (go_at_call 28; refine (HC.out _).mono ?_; rintro e w1 ⟨rfl, rfl⟩)
      go_round
      case rel => exact ⟨k + 1, by omega, by go_num, by rw [HY.out]⟩
      case measure => simp [intOf]; omega
    · obtain rfl : k = 4 := by omega
      go_wp2
      go_ret
      exact ⟨rfl, rfl⟩
end Go.Proofs.Ytbpkaaajcimcgab
