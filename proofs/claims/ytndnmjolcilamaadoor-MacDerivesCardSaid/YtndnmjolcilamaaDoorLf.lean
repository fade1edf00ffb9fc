/- Words of 32 bits, and the walks of the digest's small functions. -/
import Derived.Test.YtndnmjolcilamaaDoorBlw
import Derived.Test.YtndnmjolcilamaaDoorProg
namespace Go.Proofs.YtndnmjolcilamaaDoor
open Go.RowKit

theorem u32_ofInt (a : UInt32) : (BitVec.ofInt 32 (a.toNat : Int)) = a.toBitVec := by
  apply BitVec.eq_of_toNat_eq
  rw [BitVec.ofInt_natCast, BitVec.toNat_ofNat]
  exact Nat.mod_eq_of_lt a.toNat_lt
theorem u32_wrap (a : UInt32) : IntKind.u32.wrap (a.toNat : Int) = (a.toNat : Int) := by
  have := a.toNat_lt
  rw [show IntKind.u32.wrap (a.toNat : Int) = (a.toNat : Int) % 4294967296 from rfl]
  omega
theorem xor_u32 (a b : UInt32) : bits .xor .u32 (a.toNat : Int) (b.toNat : Int) = ((a ^^^ b).toNat : Int) := by
  show IntKind.u32.wrap ((BitVec.ofInt 32 (a.toNat : Int) ^^^ BitVec.ofInt 32 (b.toNat : Int)).toNat : Int) = _
  rw [u32_ofInt, u32_ofInt]
  exact u32_wrap (a ^^^ b)
theorem and_u32 (a b : UInt32) : bits .and .u32 (a.toNat : Int) (b.toNat : Int) = ((a &&& b).toNat : Int) := by
  show IntKind.u32.wrap ((BitVec.ofInt 32 (a.toNat : Int) &&& BitVec.ofInt 32 (b.toNat : Int)).toNat : Int) = _
  rw [u32_ofInt, u32_ofInt]
  exact u32_wrap (a &&& b)
theorem or_u32 (a b : UInt32) : bits .or .u32 (a.toNat : Int) (b.toNat : Int) = ((a ||| b).toNat : Int) := by
  show IntKind.u32.wrap ((BitVec.ofInt 32 (a.toNat : Int) ||| BitVec.ofInt 32 (b.toNat : Int)).toNat : Int) = _
  rw [u32_ofInt, u32_ofInt]
  exact u32_wrap (a ||| b)
theorem add_u32 (a b : UInt32) : ((a.toNat : Int) + (b.toNat : Int)) % 4294967296 = ((a + b).toNat : Int) := by
  rw [UInt32.toNat_add]
  omega
theorem shr_u32 (a : UInt32) (k m : Nat) (hk : k < 32) (hm : 2 ^ k = m) : (a.toNat : Int) / (m : Int) = ((a >>> UInt32.ofNat k).toNat : Int) := by
  rw [UInt32.toNat_shiftRight, UInt32.toNat_ofNat', Nat.mod_eq_of_lt (by omega : k < 2 ^ 32), Nat.mod_eq_of_lt hk, Nat.shiftRight_eq_div_pow, hm]
  omega
theorem shl_u32 (a : UInt32) (k m : Nat) (hk : k < 32) (hm : 2 ^ k = m) : (a.toNat : Int) * (m : Int) % 4294967296 = ((a <<< UInt32.ofNat k).toNat : Int) := by
  rw [UInt32.toNat_shiftLeft, UInt32.toNat_ofNat', Nat.mod_eq_of_lt (by omega : k < 2 ^ 32), Nat.mod_eq_of_lt hk, Nat.shiftLeft_eq, hm]
  omega

/-- Turned round to the right. -/
def rotr (x : UInt32) (n : Nat) : UInt32 := (x <<< UInt32.ofNat (32 - n)) ||| (x >>> UInt32.ofNat n)
def sLow (x : UInt32) : UInt32 := rotr x 6 ^^^ rotr x 11 ^^^ rotr x 25
def sHigh (x : UInt32) : UInt32 := rotr x 2 ^^^ rotr x 13 ^^^ rotr x 22
def sEarly (x : UInt32) : UInt32 := rotr x 7 ^^^ rotr x 18 ^^^ (x >>> UInt32.ofNat 3)
def sLate (x : UInt32) : UInt32 := rotr x 17 ^^^ rotr x 19 ^^^ (x >>> UInt32.ofNat 10)
def chs (x y z : UInt32) : UInt32 := (x &&& y) ^^^ (~~~x &&& z)
def maj (x y z : UInt32) : UInt32 := (x &&& y) ^^^ (x &&& z) ^^^ (y &&& z)

theorem rotr_bits (x : UInt32) (n a b : Nat) (h0 : 0 < n) (hn : n < 32) (ha : 2 ^ (32 - n) = a) (hb : 2 ^ n = b) :
    bits .or .u32 ((x.toNat : Int) * (a : Int) % 4294967296) ((x.toNat : Int) / (b : Int)) = ((rotr x n).toNat : Int) := by
  rw [shl_u32 x (32 - n) a (by omega) ha, shr_u32 x n b hn hb, or_u32]
  rfl


theorem rot2_any (x : UInt32) (w : World) : Calls Tryd.prog 103 #[.int .u32 (x.toNat : Int), .int .i64 (-2)] w fun e w' => e = .returned (.int .u32 ((rotr x 2).toNat : Int)) ∧ w = w' := by
  have hb := x.toNat_lt
  have hw : IntKind.u64.wrap (-2) = 18446744073709551614 := by decide +kernel
  have ha : bits .and .u64 18446744073709551614 31 = 30 := by decide +kernel
  have hx := rotr_bits x 2 1073741824 4 (by decide) (by decide) (by decide) (by decide)
  simp only [Int.cast_ofNat_Int] at hx
  go_enter Tryd.func103, Tryd.ntmps103
  go_wp2
  go_ret
  exact ⟨rfl, rfl⟩
theorem right2_any (x : UInt32) (w : World) : Calls Tryd.prog 99 #[.int .u32 (x.toNat : Int), .int .i64 2] w fun e w' => e = .returned (.int .u32 ((rotr x 2).toNat : Int)) ∧ w = w' := by
  go_enter Tryd.func99, Tryd.ntmps99
  go_wp2_with (go_at_call 103; refine (rot2_any x _).mono ?_; rintro e w1 ⟨rfl, rfl⟩)
  go_ret
  exact ⟨rfl, rfl⟩

theorem rot6_any (x : UInt32) (w : World) : Calls Tryd.prog 103 #[.int .u32 (x.toNat : Int), .int .i64 (-6)] w fun e w' => e = .returned (.int .u32 ((rotr x 6).toNat : Int)) ∧ w = w' := by
  have hb := x.toNat_lt
  have hw : IntKind.u64.wrap (-6) = 18446744073709551610 := by decide +kernel
  have ha : bits .and .u64 18446744073709551610 31 = 26 := by decide +kernel
  have hx := rotr_bits x 6 67108864 64 (by decide) (by decide) (by decide) (by decide)
  simp only [Int.cast_ofNat_Int] at hx
  go_enter Tryd.func103, Tryd.ntmps103
  go_wp2
  go_ret
  exact ⟨rfl, rfl⟩
theorem right6_any (x : UInt32) (w : World) : Calls Tryd.prog 99 #[.int .u32 (x.toNat : Int), .int .i64 6] w fun e w' => e = .returned (.int .u32 ((rotr x 6).toNat : Int)) ∧ w = w' := by
  go_enter Tryd.func99, Tryd.ntmps99
  go_wp2_with (go_at_call 103; refine (rot6_any x _).mono ?_; rintro e w1 ⟨rfl, rfl⟩)
  go_ret
  exact ⟨rfl, rfl⟩

theorem rot7_any (x : UInt32) (w : World) : Calls Tryd.prog 103 #[.int .u32 (x.toNat : Int), .int .i64 (-7)] w fun e w' => e = .returned (.int .u32 ((rotr x 7).toNat : Int)) ∧ w = w' := by
  have hb := x.toNat_lt
  have hw : IntKind.u64.wrap (-7) = 18446744073709551609 := by decide +kernel
  have ha : bits .and .u64 18446744073709551609 31 = 25 := by decide +kernel
  have hx := rotr_bits x 7 33554432 128 (by decide) (by decide) (by decide) (by decide)
  simp only [Int.cast_ofNat_Int] at hx
  go_enter Tryd.func103, Tryd.ntmps103
  go_wp2
  go_ret
  exact ⟨rfl, rfl⟩
theorem right7_any (x : UInt32) (w : World) : Calls Tryd.prog 99 #[.int .u32 (x.toNat : Int), .int .i64 7] w fun e w' => e = .returned (.int .u32 ((rotr x 7).toNat : Int)) ∧ w = w' := by
  go_enter Tryd.func99, Tryd.ntmps99
  go_wp2_with (go_at_call 103; refine (rot7_any x _).mono ?_; rintro e w1 ⟨rfl, rfl⟩)
  go_ret
  exact ⟨rfl, rfl⟩

theorem rot11_any (x : UInt32) (w : World) : Calls Tryd.prog 103 #[.int .u32 (x.toNat : Int), .int .i64 (-11)] w fun e w' => e = .returned (.int .u32 ((rotr x 11).toNat : Int)) ∧ w = w' := by
  have hb := x.toNat_lt
  have hw : IntKind.u64.wrap (-11) = 18446744073709551605 := by decide +kernel
  have ha : bits .and .u64 18446744073709551605 31 = 21 := by decide +kernel
  have hx := rotr_bits x 11 2097152 2048 (by decide) (by decide) (by decide) (by decide)
  simp only [Int.cast_ofNat_Int] at hx
  go_enter Tryd.func103, Tryd.ntmps103
  go_wp2
  go_ret
  exact ⟨rfl, rfl⟩
theorem right11_any (x : UInt32) (w : World) : Calls Tryd.prog 99 #[.int .u32 (x.toNat : Int), .int .i64 11] w fun e w' => e = .returned (.int .u32 ((rotr x 11).toNat : Int)) ∧ w = w' := by
  go_enter Tryd.func99, Tryd.ntmps99
  go_wp2_with (go_at_call 103; refine (rot11_any x _).mono ?_; rintro e w1 ⟨rfl, rfl⟩)
  go_ret
  exact ⟨rfl, rfl⟩

theorem rot13_any (x : UInt32) (w : World) : Calls Tryd.prog 103 #[.int .u32 (x.toNat : Int), .int .i64 (-13)] w fun e w' => e = .returned (.int .u32 ((rotr x 13).toNat : Int)) ∧ w = w' := by
  have hb := x.toNat_lt
  have hw : IntKind.u64.wrap (-13) = 18446744073709551603 := by decide +kernel
  have ha : bits .and .u64 18446744073709551603 31 = 19 := by decide +kernel
  have hx := rotr_bits x 13 524288 8192 (by decide) (by decide) (by decide) (by decide)
  simp only [Int.cast_ofNat_Int] at hx
  go_enter Tryd.func103, Tryd.ntmps103
  go_wp2
  go_ret
  exact ⟨rfl, rfl⟩
theorem right13_any (x : UInt32) (w : World) : Calls Tryd.prog 99 #[.int .u32 (x.toNat : Int), .int .i64 13] w fun e w' => e = .returned (.int .u32 ((rotr x 13).toNat : Int)) ∧ w = w' := by
  go_enter Tryd.func99, Tryd.ntmps99
  go_wp2_with (go_at_call 103; refine (rot13_any x _).mono ?_; rintro e w1 ⟨rfl, rfl⟩)
  go_ret
  exact ⟨rfl, rfl⟩

theorem rot17_any (x : UInt32) (w : World) : Calls Tryd.prog 103 #[.int .u32 (x.toNat : Int), .int .i64 (-17)] w fun e w' => e = .returned (.int .u32 ((rotr x 17).toNat : Int)) ∧ w = w' := by
  have hb := x.toNat_lt
  have hw : IntKind.u64.wrap (-17) = 18446744073709551599 := by decide +kernel
  have ha : bits .and .u64 18446744073709551599 31 = 15 := by decide +kernel
  have hx := rotr_bits x 17 32768 131072 (by decide) (by decide) (by decide) (by decide)
  simp only [Int.cast_ofNat_Int] at hx
  go_enter Tryd.func103, Tryd.ntmps103
  go_wp2
  go_ret
  exact ⟨rfl, rfl⟩
theorem right17_any (x : UInt32) (w : World) : Calls Tryd.prog 99 #[.int .u32 (x.toNat : Int), .int .i64 17] w fun e w' => e = .returned (.int .u32 ((rotr x 17).toNat : Int)) ∧ w = w' := by
  go_enter Tryd.func99, Tryd.ntmps99
  go_wp2_with (go_at_call 103; refine (rot17_any x _).mono ?_; rintro e w1 ⟨rfl, rfl⟩)
  go_ret
  exact ⟨rfl, rfl⟩

theorem rot18_any (x : UInt32) (w : World) : Calls Tryd.prog 103 #[.int .u32 (x.toNat : Int), .int .i64 (-18)] w fun e w' => e = .returned (.int .u32 ((rotr x 18).toNat : Int)) ∧ w = w' := by
  have hb := x.toNat_lt
  have hw : IntKind.u64.wrap (-18) = 18446744073709551598 := by decide +kernel
  have ha : bits .and .u64 18446744073709551598 31 = 14 := by decide +kernel
  have hx := rotr_bits x 18 16384 262144 (by decide) (by decide) (by decide) (by decide)
  simp only [Int.cast_ofNat_Int] at hx
  go_enter Tryd.func103, Tryd.ntmps103
  go_wp2
  go_ret
  exact ⟨rfl, rfl⟩
theorem right18_any (x : UInt32) (w : World) : Calls Tryd.prog 99 #[.int .u32 (x.toNat : Int), .int .i64 18] w fun e w' => e = .returned (.int .u32 ((rotr x 18).toNat : Int)) ∧ w = w' := by
  go_enter Tryd.func99, Tryd.ntmps99
  go_wp2_with (go_at_call 103; refine (rot18_any x _).mono ?_; rintro e w1 ⟨rfl, rfl⟩)
  go_ret
  exact ⟨rfl, rfl⟩

theorem rot19_any (x : UInt32) (w : World) : Calls Tryd.prog 103 #[.int .u32 (x.toNat : Int), .int .i64 (-19)] w fun e w' => e = .returned (.int .u32 ((rotr x 19).toNat : Int)) ∧ w = w' := by
  have hb := x.toNat_lt
  have hw : IntKind.u64.wrap (-19) = 18446744073709551597 := by decide +kernel
  have ha : bits .and .u64 18446744073709551597 31 = 13 := by decide +kernel
  have hx := rotr_bits x 19 8192 524288 (by decide) (by decide) (by decide) (by decide)
  simp only [Int.cast_ofNat_Int] at hx
  go_enter Tryd.func103, Tryd.ntmps103
  go_wp2
  go_ret
  exact ⟨rfl, rfl⟩
theorem right19_any (x : UInt32) (w : World) : Calls Tryd.prog 99 #[.int .u32 (x.toNat : Int), .int .i64 19] w fun e w' => e = .returned (.int .u32 ((rotr x 19).toNat : Int)) ∧ w = w' := by
  go_enter Tryd.func99, Tryd.ntmps99
  go_wp2_with (go_at_call 103; refine (rot19_any x _).mono ?_; rintro e w1 ⟨rfl, rfl⟩)
  go_ret
  exact ⟨rfl, rfl⟩

theorem rot22_any (x : UInt32) (w : World) : Calls Tryd.prog 103 #[.int .u32 (x.toNat : Int), .int .i64 (-22)] w fun e w' => e = .returned (.int .u32 ((rotr x 22).toNat : Int)) ∧ w = w' := by
  have hb := x.toNat_lt
  have hw : IntKind.u64.wrap (-22) = 18446744073709551594 := by decide +kernel
  have ha : bits .and .u64 18446744073709551594 31 = 10 := by decide +kernel
  have hx := rotr_bits x 22 1024 4194304 (by decide) (by decide) (by decide) (by decide)
  simp only [Int.cast_ofNat_Int] at hx
  go_enter Tryd.func103, Tryd.ntmps103
  go_wp2
  go_ret
  exact ⟨rfl, rfl⟩
theorem right22_any (x : UInt32) (w : World) : Calls Tryd.prog 99 #[.int .u32 (x.toNat : Int), .int .i64 22] w fun e w' => e = .returned (.int .u32 ((rotr x 22).toNat : Int)) ∧ w = w' := by
  go_enter Tryd.func99, Tryd.ntmps99
  go_wp2_with (go_at_call 103; refine (rot22_any x _).mono ?_; rintro e w1 ⟨rfl, rfl⟩)
  go_ret
  exact ⟨rfl, rfl⟩

theorem rot25_any (x : UInt32) (w : World) : Calls Tryd.prog 103 #[.int .u32 (x.toNat : Int), .int .i64 (-25)] w fun e w' => e = .returned (.int .u32 ((rotr x 25).toNat : Int)) ∧ w = w' := by
  have hb := x.toNat_lt
  have hw : IntKind.u64.wrap (-25) = 18446744073709551591 := by decide +kernel
  have ha : bits .and .u64 18446744073709551591 31 = 7 := by decide +kernel
  have hx := rotr_bits x 25 128 33554432 (by decide) (by decide) (by decide) (by decide)
  simp only [Int.cast_ofNat_Int] at hx
  go_enter Tryd.func103, Tryd.ntmps103
  go_wp2
  go_ret
  exact ⟨rfl, rfl⟩
theorem right25_any (x : UInt32) (w : World) : Calls Tryd.prog 99 #[.int .u32 (x.toNat : Int), .int .i64 25] w fun e w' => e = .returned (.int .u32 ((rotr x 25).toNat : Int)) ∧ w = w' := by
  go_enter Tryd.func99, Tryd.ntmps99
  go_wp2_with (go_at_call 103; refine (rot25_any x _).mono ?_; rintro e w1 ⟨rfl, rfl⟩)
  go_ret
  exact ⟨rfl, rfl⟩

theorem mixLow_any (x : UInt32) (w : World) : Calls Tryd.prog 82 #[.int .u32 (x.toNat : Int)] w fun e w' => e = .returned (.int .u32 ((sLow x).toNat : Int)) ∧ w = w' := by
  have h1 := xor_u32 (rotr x 6) (rotr x 11)
  have h2 := xor_u32 (rotr x 6 ^^^ rotr x 11) (rotr x 25)
  have e1 := fun W => right6_any x W
  have e2 := fun W => right11_any x W
  have e3 := fun W => right25_any x W
  have hr : sLow x = rotr x 6 ^^^ rotr x 11 ^^^ rotr x 25 := rfl
  rw [hr]
  generalize rotr x 6 ^^^ rotr x 11 ^^^ rotr x 25 = z at *
  generalize rotr x 6 ^^^ rotr x 11 = y at *
  have E1 := Lib.hid e1
  have E2 := Lib.hid e2
  have E3 := Lib.hid e3
  clear e1 e2 e3 hr
  generalize rotr x 6 = ra at *
  generalize rotr x 11 = rb at *
  generalize rotr x 25 = rc at *
  go_enter Tryd.func82, Tryd.ntmps82
  go_wp2_with (first
    | (go_at_call 99; with_reducible refine (E1.out _).mono ?_; rintro e w1 ⟨rfl, rfl⟩)
    | (go_at_call 99; with_reducible refine (E2.out _).mono ?_; rintro e w1 ⟨rfl, rfl⟩)
    | (go_at_call 99; with_reducible refine (E3.out _).mono ?_; rintro e w1 ⟨rfl, rfl⟩))
  go_ret
  exact ⟨rfl, rfl⟩

theorem mixHigh_any (x : UInt32) (w : World) : Calls Tryd.prog 84 #[.int .u32 (x.toNat : Int)] w fun e w' => e = .returned (.int .u32 ((sHigh x).toNat : Int)) ∧ w = w' := by
  have h1 := xor_u32 (rotr x 2) (rotr x 13)
  have h2 := xor_u32 (rotr x 2 ^^^ rotr x 13) (rotr x 22)
  have e1 := fun W => right2_any x W
  have e2 := fun W => right13_any x W
  have e3 := fun W => right22_any x W
  have hr : sHigh x = rotr x 2 ^^^ rotr x 13 ^^^ rotr x 22 := rfl
  rw [hr]
  generalize rotr x 2 ^^^ rotr x 13 ^^^ rotr x 22 = z at *
  generalize rotr x 2 ^^^ rotr x 13 = y at *
  have E1 := Lib.hid e1
  have E2 := Lib.hid e2
  have E3 := Lib.hid e3
  clear e1 e2 e3 hr
  generalize rotr x 2 = ra at *
  generalize rotr x 13 = rb at *
  generalize rotr x 22 = rc at *
  go_enter Tryd.func84, Tryd.ntmps84
  go_wp2_with (first
    | (go_at_call 99; with_reducible refine (E1.out _).mono ?_; rintro e w1 ⟨rfl, rfl⟩)
    | (go_at_call 99; with_reducible refine (E2.out _).mono ?_; rintro e w1 ⟨rfl, rfl⟩)
    | (go_at_call 99; with_reducible refine (E3.out _).mono ?_; rintro e w1 ⟨rfl, rfl⟩))
  go_ret
  exact ⟨rfl, rfl⟩

theorem spreadEarly_any (x : UInt32) (w : World) : Calls Tryd.prog 98 #[.int .u32 (x.toNat : Int)] w fun e w' => e = .returned (.int .u32 ((sEarly x).toNat : Int)) ∧ w = w' := by
  have hb := x.toNat_lt
  have h0 := shr_u32 x 3 8 (by decide) (by decide)
  have h1 := xor_u32 (rotr x 7) (rotr x 18)
  have h2 := xor_u32 (rotr x 7 ^^^ rotr x 18) (x >>> UInt32.ofNat 3)
  have e1 := fun W => right7_any x W
  have e2 := fun W => right18_any x W
  have hr : sEarly x = rotr x 7 ^^^ rotr x 18 ^^^ (x >>> UInt32.ofNat 3) := rfl
  rw [hr]
  rw [← h0] at h2
  simp only [Int.cast_ofNat_Int] at h2
  clear h0
  generalize rotr x 7 ^^^ rotr x 18 ^^^ (x >>> UInt32.ofNat 3) = z at *
  generalize rotr x 7 ^^^ rotr x 18 = y at *
  have E1 := Lib.hid e1
  have E2 := Lib.hid e2
  clear e1 e2 hr
  generalize rotr x 7 = ra at *
  generalize rotr x 18 = rb at *
  go_enter Tryd.func98, Tryd.ntmps98
  go_wp2_with (first
    | (go_at_call 99; with_reducible refine (E1.out _).mono ?_; rintro e w1 ⟨rfl, rfl⟩)
    | (go_at_call 99; with_reducible refine (E2.out _).mono ?_; rintro e w1 ⟨rfl, rfl⟩))
  go_ret
  exact ⟨rfl, rfl⟩

theorem spreadLate_any (x : UInt32) (w : World) : Calls Tryd.prog 97 #[.int .u32 (x.toNat : Int)] w fun e w' => e = .returned (.int .u32 ((sLate x).toNat : Int)) ∧ w = w' := by
  have hb := x.toNat_lt
  have h0 := shr_u32 x 10 1024 (by decide) (by decide)
  have h1 := xor_u32 (rotr x 17) (rotr x 19)
  have h2 := xor_u32 (rotr x 17 ^^^ rotr x 19) (x >>> UInt32.ofNat 10)
  have e1 := fun W => right17_any x W
  have e2 := fun W => right19_any x W
  have hr : sLate x = rotr x 17 ^^^ rotr x 19 ^^^ (x >>> UInt32.ofNat 10) := rfl
  rw [hr]
  rw [← h0] at h2
  simp only [Int.cast_ofNat_Int] at h2
  clear h0
  generalize rotr x 17 ^^^ rotr x 19 ^^^ (x >>> UInt32.ofNat 10) = z at *
  generalize rotr x 17 ^^^ rotr x 19 = y at *
  have E1 := Lib.hid e1
  have E2 := Lib.hid e2
  clear e1 e2 hr
  generalize rotr x 17 = ra at *
  generalize rotr x 19 = rb at *
  go_enter Tryd.func97, Tryd.ntmps97
  go_wp2_with (first
    | (go_at_call 99; with_reducible refine (E1.out _).mono ?_; rintro e w1 ⟨rfl, rfl⟩)
    | (go_at_call 99; with_reducible refine (E2.out _).mono ?_; rintro e w1 ⟨rfl, rfl⟩))
  go_ret
  exact ⟨rfl, rfl⟩

theorem not_u32 (x : UInt32) : bits .xor .u32 IntKind.u32.max (x.toNat : Int) = ((~~~x).toNat : Int) := by
  have h : (4294967295 : UInt32) ^^^ x = ~~~x := by
    apply UInt32.eq_of_toBitVec_eq
    rw [UInt32.toBitVec_xor, UInt32.toBitVec_not]
    exact BitVec.allOnes_xor
  rw [← h, ← xor_u32]
  rfl
theorem choose_any (x y z : UInt32) (w : World) : Calls Tryd.prog 83 #[.int .u32 (x.toNat : Int), .int .u32 (y.toNat : Int), .int .u32 (z.toNat : Int)] w fun e w' => e = .returned (.int .u32 ((chs x y z).toNat : Int)) ∧ w = w' := by
  have h1 := and_u32 x y
  have h2 := not_u32 x
  have h3 := and_u32 (~~~x) z
  have h4 := xor_u32 (x &&& y) (~~~x &&& z)
  have hr : chs x y z = (x &&& y) ^^^ (~~~x &&& z) := rfl
  rw [hr]
  generalize (x &&& y) ^^^ (~~~x &&& z) = q at *
  generalize (~~~x &&& z) = r at *
  generalize (x &&& y) = s at *
  generalize ~~~x = n at *
  clear hr
  go_enter Tryd.func83, Tryd.ntmps83
  go_wp2
  go_ret
  exact ⟨rfl, rfl⟩
theorem majority_any (x y z : UInt32) (w : World) : Calls Tryd.prog 85 #[.int .u32 (x.toNat : Int), .int .u32 (y.toNat : Int), .int .u32 (z.toNat : Int)] w fun e w' => e = .returned (.int .u32 ((maj x y z).toNat : Int)) ∧ w = w' := by
  have h1 := and_u32 x y
  have h2 := and_u32 x z
  have h3 := and_u32 y z
  have h4 := xor_u32 (x &&& y) (x &&& z)
  have h5 := xor_u32 ((x &&& y) ^^^ (x &&& z)) (y &&& z)
  have hr : maj x y z = (x &&& y) ^^^ (x &&& z) ^^^ (y &&& z) := rfl
  rw [hr]
  generalize (x &&& y) ^^^ (x &&& z) ^^^ (y &&& z) = q at *
  generalize (x &&& y) ^^^ (x &&& z) = r at *
  generalize (x &&& y) = s at *
  generalize (x &&& z) = t at *
  generalize (y &&& z) = u at *
  clear hr
  go_enter Tryd.func85, Tryd.ntmps85
  go_wp2
  go_ret
  exact ⟨rfl, rfl⟩
end Go.Proofs.YtndnmjolcilamaaDoor
