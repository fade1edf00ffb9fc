/- Words of 32 bits, and the walks of the digest's small functions. -/
import Derived.Test.YtaanhancjmigdaaDoorSea
import Derived.Test.YtaanhancjmigdaaDoorBlw
import Derived.Test.YtaanhancjmigdaaDoorProg
import Derived.Test.YtaanhancjmigdaaDoorCb
namespace Go.Proofs.YtaanhancjmigdaaDoor
open Go.RowKit

theorem u32_ofInt (a : UInt32) : (BitVec.ofInt 32 (a.toNat : Int)) = a.toBitVec := by
  apply BitVec.eq_of_toNat_eq
  rw [BitVec.ofInt_natCast, BitVec.toNat_ofNat]
  exact Nat.mod_eq_of_lt a.toNat_lt
theorem u32_wrap (a : UInt32) : IntKind.u32.wrap (a.toNat : Int) = (a.toNat : Int) := by
  have := a.toNat_lt
  rw [show IntKind.u32.wrap (a.toNat : Int) = (a.toNat : Int) % 4294967296 from rfl]
  omega
theorem xor_u32 (a b : UInt32) : bits .xor .u32 (a.toNat : Int) (b.toNat : Int) = ((a ^^^ b).toNat : Int) := by
  show IntKind.u32.wrap ((BitVec.ofInt 32 (a.toNat : Int) ^^^ BitVec.ofInt 32 (b.toNat : Int)).toNat : Int) = _
  rw [u32_ofInt, u32_ofInt]
  exact u32_wrap (a ^^^ b)
theorem and_u32 (a b : UInt32) : bits .and .u32 (a.toNat : Int) (b.toNat : Int) = ((a &&& b).toNat : Int) := by
  show IntKind.u32.wrap ((BitVec.ofInt 32 (a.toNat : Int) &&& BitVec.ofInt 32 (b.toNat : Int)).toNat : Int) = _
  rw [u32_ofInt, u32_ofInt]
  exact u32_wrap (a &&& b)
theorem or_u32 (a b : UInt32) : bits .or .u32 (a.toNat : Int) (b.toNat : Int) = ((a ||| b).toNat : Int) := by
  show IntKind.u32.wrap ((BitVec.ofInt 32 (a.toNat : Int) ||| BitVec.ofInt 32 (b.toNat : Int)).toNat : Int) = _
  rw [u32_ofInt, u32_ofInt]
  exact u32_wrap (a ||| b)
theorem add_u32 (a b : UInt32) : ((a.toNat : Int) + (b.toNat : Int)) % 4294967296 = ((a + b).toNat : Int) := by
  rw [UInt32.toNat_add]
  omega
theorem shr_u32 (a : UInt32) (k m : Nat) (hk : k < 32) (hm : 2 ^ k = m) : (a.toNat : Int) / (m : Int) = ((a >>> UInt32.ofNat k).toNat : Int) := by
  rw [UInt32.toNat_shiftRight, UInt32.toNat_ofNat', Nat.mod_eq_of_lt (by omega : k < 2 ^ 32), Nat.mod_eq_of_lt hk, Nat.shiftRight_eq_div_pow, hm]
  omega
theorem shl_u32 (a : UInt32) (k m : Nat) (hk : k < 32) (hm : 2 ^ k = m) : (a.toNat : Int) * (m : Int) % 4294967296 = ((a <<< UInt32.ofNat k).toNat : Int) := by
  rw [UInt32.toNat_shiftLeft, UInt32.toNat_ofNat', Nat.mod_eq_of_lt (by omega : k < 2 ^ 32), Nat.mod_eq_of_lt hk, Nat.shiftLeft_eq, hm]
  omega

/-- Turned round to the right. -/
def rotr (x : UInt32) (n : Nat) : UInt32 := (x <<< UInt32.ofNat (32 - n)) ||| (x >>> UInt32.ofNat n)
def sLow (x : UInt32) : UInt32 := rotr x 6 ^^^ rotr x 11 ^^^ rotr x 25
def sHigh (x : UInt32) : UInt32 := rotr x 2 ^^^ rotr x 13 ^^^ rotr x 22
def sEarly (x : UInt32) : UInt32 := rotr x 7 ^^^ rotr x 18 ^^^ (x >>> UInt32.ofNat 3)
def sLate (x : UInt32) : UInt32 := rotr x 17 ^^^ rotr x 19 ^^^ (x >>> UInt32.ofNat 10)
def chs (x y z : UInt32) : UInt32 := (x &&& y) ^^^ (~~~x &&& z)
def maj (x y z : UInt32) : UInt32 := (x &&& y) ^^^ (x &&& z) ^^^ (y &&& z)

theorem rotr_bits (x : UInt32) (n a b : Nat) (h0 : 0 < n) (hn : n < 32) (ha : 2 ^ (32 - n) = a) (hb : 2 ^ n = b) :
    bits .or .u32 ((x.toNat : Int) * (a : Int) % 4294967296) ((x.toNat : Int) / (b : Int)) = ((rotr x n).toNat : Int) := by
  rw [shl_u32 x (32 - n) a (by omega) ha, shr_u32 x n b hn hb, or_u32]
  rfl


theorem rot2_anyM (x : UInt32) (w : World) : Calls Tryd.prog 99 #[.int .u32 (x.toNat : Int), .int .i64 (-2)] w fun e w' => e = .returned (.int .u32 ((rotr x 2).toNat : Int)) ∧ w = w' := by
  have hb := x.toNat_lt
  have hw : IntKind.u64.wrap (-2) = 18446744073709551614 := by decide +kernel
  have ha : bits .and .u64 18446744073709551614 31 = 30 := by decide +kernel
  have hx := rotr_bits x 2 1073741824 4 (by decide) (by decide) (by decide) (by decide)
  simp only [Int.cast_ofNat_Int] at hx
  go_enter Tryd.func99, Tryd.ntmps99
  go_wp2
  go_ret
  exact ⟨rfl, rfl⟩
theorem right2_any (x : UInt32) (w : World) : Calls Tryd.prog 95 #[.int .u32 (x.toNat : Int), .int .i64 2] w fun e w' => e = .returned (.int .u32 ((rotr x 2).toNat : Int)) ∧ w = w' := by
  go_enter Tryd.func95, Tryd.ntmps95
  go_wp2_with (go_at_call 99; refine (rot2_anyM x _).mono ?_; rintro e w1 ⟨rfl, rfl⟩)
  go_ret
  exact ⟨rfl, rfl⟩

theorem rot6_any (x : UInt32) (w : World) : Calls Tryd.prog 99 #[.int .u32 (x.toNat : Int), .int .i64 (-6)] w fun e w' => e = .returned (.int .u32 ((rotr x 6).toNat : Int)) ∧ w = w' := by
  have hb := x.toNat_lt
  have hw : IntKind.u64.wrap (-6) = 18446744073709551610 := by decide +kernel
  have ha : bits .and .u64 18446744073709551610 31 = 26 := by decide +kernel
  have hx := rotr_bits x 6 67108864 64 (by decide) (by decide) (by decide) (by decide)
  simp only [Int.cast_ofNat_Int] at hx
  go_enter Tryd.func99, Tryd.ntmps99
  go_wp2
  go_ret
  exact ⟨rfl, rfl⟩
theorem right6_any (x : UInt32) (w : World) : Calls Tryd.prog 95 #[.int .u32 (x.toNat : Int), .int .i64 6] w fun e w' => e = .returned (.int .u32 ((rotr x 6).toNat : Int)) ∧ w = w' := by
  go_enter Tryd.func95, Tryd.ntmps95
  go_wp2_with (go_at_call 99; refine (rot6_any x _).mono ?_; rintro e w1 ⟨rfl, rfl⟩)
  go_ret
  exact ⟨rfl, rfl⟩

theorem rot7_any (x : UInt32) (w : World) : Calls Tryd.prog 99 #[.int .u32 (x.toNat : Int), .int .i64 (-7)] w fun e w' => e = .returned (.int .u32 ((rotr x 7).toNat : Int)) ∧ w = w' := by
  have hb := x.toNat_lt
  have hw : IntKind.u64.wrap (-7) = 18446744073709551609 := by decide +kernel
  have ha : bits .and .u64 18446744073709551609 31 = 25 := by decide +kernel
  have hx := rotr_bits x 7 33554432 128 (by decide) (by decide) (by decide) (by decide)
  simp only [Int.cast_ofNat_Int] at hx
  go_enter Tryd.func99, Tryd.ntmps99
  go_wp2
  go_ret
  exact ⟨rfl, rfl⟩
theorem right7_any (x : UInt32) (w : World) : Calls Tryd.prog 95 #[.int .u32 (x.toNat : Int), .int .i64 7] w fun e w' => e = .returned (.int .u32 ((rotr x 7).toNat : Int)) ∧ w = w' := by
  go_enter Tryd.func95, Tryd.ntmps95
  go_wp2_with (go_at_call 99; refine (rot7_any x _).mono ?_; rintro e w1 ⟨rfl, rfl⟩)
  go_ret
  exact ⟨rfl, rfl⟩

theorem rot11_any (x : UInt32) (w : World) : Calls Tryd.prog 99 #[.int .u32 (x.toNat : Int), .int .i64 (-11)] w fun e w' => e = .returned (.int .u32 ((rotr x 11).toNat : Int)) ∧ w = w' := by
  have hb := x.toNat_lt
  have hw : IntKind.u64.wrap (-11) = 18446744073709551605 := by decide +kernel
  have ha : bits .and .u64 18446744073709551605 31 = 21 := by decide +kernel
  have hx := rotr_bits x 11 2097152 2048 (by decide) (by decide) (by decide) (by decide)
  simp only [Int.cast_ofNat_Int] at hx
  go_enter Tryd.func99, Tryd.ntmps99
  go_wp2
  go_ret
  exact ⟨rfl, rfl⟩
theorem right11_any (x : UInt32) (w : World) : Calls Tryd.prog 95 #[.int .u32 (x.toNat : Int), .int .i64 11] w fun e w' => e = .returned (.int .u32 ((rotr x 11).toNat : Int)) ∧ w = w' := by
  go_enter Tryd.func95, Tryd.ntmps95
  go_wp2_with (go_at_call 99; refine (rot11_any x _).mono ?_; rintro e w1 ⟨rfl, rfl⟩)
  go_ret
  exact ⟨rfl, rfl⟩

theorem rot13_any (x : UInt32) (w : World) : Calls Tryd.prog 99 #[.int .u32 (x.toNat : Int), .int .i64 (-13)] w fun e w' => e = .returned (.int .u32 ((rotr x 13).toNat : Int)) ∧ w = w' := by
  have hb := x.toNat_lt
  have hw : IntKind.u64.wrap (-13) = 18446744073709551603 := by decide +kernel
  have ha : bits .and .u64 18446744073709551603 31 = 19 := by decide +kernel
  have hx := rotr_bits x 13 524288 8192 (by decide) (by decide) (by decide) (by decide)
  simp only [Int.cast_ofNat_Int] at hx
  go_enter Tryd.func99, Tryd.ntmps99
  go_wp2
  go_ret
  exact ⟨rfl, rfl⟩
theorem right13_any (x : UInt32) (w : World) : Calls Tryd.prog 95 #[.int .u32 (x.toNat : Int), .int .i64 13] w fun e w' => e = .returned (.int .u32 ((rotr x 13).toNat : Int)) ∧ w = w' := by
  go_enter Tryd.func95, Tryd.ntmps95
  go_wp2_with (go_at_call 99; refine (rot13_any x _).mono ?_; rintro e w1 ⟨rfl, rfl⟩)
  go_ret
  exact ⟨rfl, rfl⟩

theorem rot17_any (x : UInt32) (w : World) : Calls Tryd.prog 99 #[.int .u32 (x.toNat : Int), .int .i64 (-17)] w fun e w' => e = .returned (.int .u32 ((rotr x 17).toNat : Int)) ∧ w = w' := by
  have hb := x.toNat_lt
  have hw : IntKind.u64.wrap (-17) = 18446744073709551599 := by decide +kernel
  have ha : bits .and .u64 18446744073709551599 31 = 15 := by decide +kernel
  have hx := rotr_bits x 17 32768 131072 (by decide) (by decide) (by decide) (by decide)
  simp only [Int.cast_ofNat_Int] at hx
  go_enter Tryd.func99, Tryd.ntmps99
  go_wp2
  go_ret
  exact ⟨rfl, rfl⟩
theorem right17_any (x : UInt32) (w : World) : Calls Tryd.prog 95 #[.int .u32 (x.toNat : Int), .int .i64 17] w fun e w' => e = .returned (.int .u32 ((rotr x 17).toNat : Int)) ∧ w = w' := by
  go_enter Tryd.func95, Tryd.ntmps95
  go_wp2_with (go_at_call 99; refine (rot17_any x _).mono ?_; rintro e w1 ⟨rfl, rfl⟩)
  go_ret
  exact ⟨rfl, rfl⟩

theorem rot18_any (x : UInt32) (w : World) : Calls Tryd.prog 99 #[.int .u32 (x.toNat : Int), .int .i64 (-18)] w fun e w' => e = .returned (.int .u32 ((rotr x 18).toNat : Int)) ∧ w = w' := by
  have hb := x.toNat_lt
  have hw : IntKind.u64.wrap (-18) = 18446744073709551598 := by decide +kernel
  have ha : bits .and .u64 18446744073709551598 31 = 14 := by decide +kernel
  have hx := rotr_bits x 18 16384 262144 (by decide) (by decide) (by decide) (by decide)
  simp only [Int.cast_ofNat_Int] at hx
  go_enter Tryd.func99, Tryd.ntmps99
  go_wp2
  go_ret
  exact ⟨rfl, rfl⟩
theorem right18_any (x : UInt32) (w : World) : Calls Tryd.prog 95 #[.int .u32 (x.toNat : Int), .int .i64 18] w fun e w' => e = .returned (.int .u32 ((rotr x 18).toNat : Int)) ∧ w = w' := by
  go_enter Tryd.func95, Tryd.ntmps95
  go_wp2_with (go_at_call 99; refine (rot18_any x _).mono ?_; rintro e w1 ⟨rfl, rfl⟩)
  go_ret
  exact ⟨rfl, rfl⟩

theorem rot19_any (x : UInt32) (w : World) : Calls Tryd.prog 99 #[.int .u32 (x.toNat : Int), .int .i64 (-19)] w fun e w' => e = .returned (.int .u32 ((rotr x 19).toNat : Int)) ∧ w = w' := by
  have hb := x.toNat_lt
  have hw : IntKind.u64.wrap (-19) = 18446744073709551597 := by decide +kernel
  have ha : bits .and .u64 18446744073709551597 31 = 13 := by decide +kernel
  have hx := rotr_bits x 19 8192 524288 (by decide) (by decide) (by decide) (by decide)
  simp only [Int.cast_ofNat_Int] at hx
  go_enter Tryd.func99, Tryd.ntmps99
  go_wp2
  go_ret
  exact ⟨rfl, rfl⟩
theorem right19_any (x : UInt32) (w : World) : Calls Tryd.prog 95 #[.int .u32 (x.toNat : Int), .int .i64 19] w fun e w' => e = .returned (.int .u32 ((rotr x 19).toNat : Int)) ∧ w = w' := by
  go_enter Tryd.func95, Tryd.ntmps95
  go_wp2_with (go_at_call 99; refine (rot19_any x _).mono ?_; rintro e w1 ⟨rfl, rfl⟩)
  go_ret
  exact ⟨rfl, rfl⟩

theorem rot22_any (x : UInt32) (w : World) : Calls Tryd.prog 99 #[.int .u32 (x.toNat : Int), .int .i64 (-22)] w fun e w' => e = .returned (.int .u32 ((rotr x 22).toNat : Int)) ∧ w = w' := by
  have hb := x.toNat_lt
  have hw : IntKind.u64.wrap (-22) = 18446744073709551594 := by decide +kernel
  have ha : bits .and .u64 18446744073709551594 31 = 10 := by decide +kernel
  have hx := rotr_bits x 22 1024 4194304 (by decide) (by decide) (by decide) (by decide)
  simp only [Int.cast_ofNat_Int] at hx
  go_enter Tryd.func99, Tryd.ntmps99
  go_wp2
  go_ret
  exact ⟨rfl, rfl⟩
theorem right22_any (x : UInt32) (w : World) : Calls Tryd.prog 95 #[.int .u32 (x.toNat : Int), .int .i64 22] w fun e w' => e = .returned (.int .u32 ((rotr x 22).toNat : Int)) ∧ w = w' := by
  go_enter Tryd.func95, Tryd.ntmps95
  go_wp2_with (go_at_call 99; refine (rot22_any x _).mono ?_; rintro e w1 ⟨rfl, rfl⟩)
  go_ret
  exact ⟨rfl, rfl⟩

theorem rot25_any (x : UInt32) (w : World) : Calls Tryd.prog 99 #[.int .u32 (x.toNat : Int), .int .i64 (-25)] w fun e w' => e = .returned (.int .u32 ((rotr x 25).toNat : Int)) ∧ w = w' := by
  have hb := x.toNat_lt
  have hw : IntKind.u64.wrap (-25) = 18446744073709551591 := by decide +kernel
  have ha : bits .and .u64 18446744073709551591 31 = 7 := by decide +kernel
  have hx := rotr_bits x 25 128 33554432 (by decide) (by decide) (by decide) (by decide)
  simp only [Int.cast_ofNat_Int] at hx
  go_enter Tryd.func99, Tryd.ntmps99
  go_wp2
  go_ret
  exact ⟨rfl, rfl⟩
theorem right25_any (x : UInt32) (w : World) : Calls Tryd.prog 95 #[.int .u32 (x.toNat : Int), .int .i64 25] w fun e w' => e = .returned (.int .u32 ((rotr x 25).toNat : Int)) ∧ w = w' := by
  go_enter Tryd.func95, Tryd.ntmps95
  go_wp2_with (go_at_call 99; refine (rot25_any x _).mono ?_; rintro e w1 ⟨rfl, rfl⟩)
  go_ret
  exact ⟨rfl, rfl⟩

theorem mixLow_any (x : UInt32) (w : World) : Calls Tryd.prog 78 #[.int .u32 (x.toNat : Int)] w fun e w' => e = .returned (.int .u32 ((sLow x).toNat : Int)) ∧ w = w' := by
  have h1 := xor_u32 (rotr x 6) (rotr x 11)
  have h2 := xor_u32 (rotr x 6 ^^^ rotr x 11) (rotr x 25)
  have e1 := fun W => right6_any x W
  have e2 := fun W => right11_any x W
  have e3 := fun W => right25_any x W
  have hr : sLow x = rotr x 6 ^^^ rotr x 11 ^^^ rotr x 25 := rfl
  rw [hr]
  generalize rotr x 6 ^^^ rotr x 11 ^^^ rotr x 25 = z at *
  generalize rotr x 6 ^^^ rotr x 11 = y at *
  have E1 := Lib.hid e1
  have E2 := Lib.hid e2
  have E3 := Lib.hid e3
  clear e1 e2 e3 hr
  generalize rotr x 6 = ra at *
  generalize rotr x 11 = rb at *
  generalize rotr x 25 = rc at *
  go_enter Tryd.func78, Tryd.ntmps78
  go_wp2_with (first
    | (go_at_call 95; with_reducible refine (E1.out _).mono ?_; rintro e w1 ⟨rfl, rfl⟩)
    | (go_at_call 95; with_reducible refine (E2.out _).mono ?_; rintro e w1 ⟨rfl, rfl⟩)
    | (go_at_call 95; with_reducible refine (E3.out _).mono ?_; rintro e w1 ⟨rfl, rfl⟩))
  go_ret
  exact ⟨rfl, rfl⟩

theorem mixHigh_any (x : UInt32) (w : World) : Calls Tryd.prog 80 #[.int .u32 (x.toNat : Int)] w fun e w' => e = .returned (.int .u32 ((sHigh x).toNat : Int)) ∧ w = w' := by
  have h1 := xor_u32 (rotr x 2) (rotr x 13)
  have h2 := xor_u32 (rotr x 2 ^^^ rotr x 13) (rotr x 22)
  have e1 := fun W => right2_any x W
  have e2 := fun W => right13_any x W
  have e3 := fun W => right22_any x W
  have hr : sHigh x = rotr x 2 ^^^ rotr x 13 ^^^ rotr x 22 := rfl
  rw [hr]
  generalize rotr x 2 ^^^ rotr x 13 ^^^ rotr x 22 = z at *
  generalize rotr x 2 ^^^ rotr x 13 = y at *
  have E1 := Lib.hid e1
  have E2 := Lib.hid e2
  have E3 := Lib.hid e3
  clear e1 e2 e3 hr
  generalize rotr x 2 = ra at *
  generalize rotr x 13 = rb at *
  generalize rotr x 22 = rc at *
  go_enter Tryd.func80, Tryd.ntmps80
  go_wp2_with (first
    | (go_at_call 95; with_reducible refine (E1.out _).mono ?_; rintro e w1 ⟨rfl, rfl⟩)
    | (go_at_call 95; with_reducible refine (E2.out _).mono ?_; rintro e w1 ⟨rfl, rfl⟩)
    | (go_at_call 95; with_reducible refine (E3.out _).mono ?_; rintro e w1 ⟨rfl, rfl⟩))
  go_ret
  exact ⟨rfl, rfl⟩

theorem spreadEarly_any (x : UInt32) (w : World) : Calls Tryd.prog 94 #[.int .u32 (x.toNat : Int)] w fun e w' => e = .returned (.int .u32 ((sEarly x).toNat : Int)) ∧ w = w' := by
  have hb := x.toNat_lt
  have h0 := shr_u32 x 3 8 (by decide) (by decide)
  have h1 := xor_u32 (rotr x 7) (rotr x 18)
  have h2 := xor_u32 (rotr x 7 ^^^ rotr x 18) (x >>> UInt32.ofNat 3)
  have e1 := fun W => right7_any x W
  have e2 := fun W => right18_any x W
  have hr : sEarly x = rotr x 7 ^^^ rotr x 18 ^^^ (x >>> UInt32.ofNat 3) := rfl
  rw [hr]
  rw [← h0] at h2
  simp only [Int.cast_ofNat_Int] at h2
  clear h0
  generalize rotr x 7 ^^^ rotr x 18 ^^^ (x >>> UInt32.ofNat 3) = z at *
  generalize rotr x 7 ^^^ rotr x 18 = y at *
  have E1 := Lib.hid e1
  have E2 := Lib.hid e2
  clear e1 e2 hr
  generalize rotr x 7 = ra at *
  generalize rotr x 18 = rb at *
  go_enter Tryd.func94, Tryd.ntmps94
  go_wp2_with (first
    | (go_at_call 95; with_reducible refine (E1.out _).mono ?_; rintro e w1 ⟨rfl, rfl⟩)
    | (go_at_call 95; with_reducible refine (E2.out _).mono ?_; rintro e w1 ⟨rfl, rfl⟩))
  go_ret
  exact ⟨rfl, rfl⟩

theorem spreadLate_any (x : UInt32) (w : World) : Calls Tryd.prog 93 #[.int .u32 (x.toNat : Int)] w fun e w' => e = .returned (.int .u32 ((sLate x).toNat : Int)) ∧ w = w' := by
  have hb := x.toNat_lt
  have h0 := shr_u32 x 10 1024 (by decide) (by decide)
  have h1 := xor_u32 (rotr x 17) (rotr x 19)
  have h2 := xor_u32 (rotr x 17 ^^^ rotr x 19) (x >>> UInt32.ofNat 10)
  have e1 := fun W => right17_any x W
  have e2 := fun W => right19_any x W
  have hr : sLate x = rotr x 17 ^^^ rotr x 19 ^^^ (x >>> UInt32.ofNat 10) := rfl
  rw [hr]
  rw [← h0] at h2
  simp only [Int.cast_ofNat_Int] at h2
  clear h0
  generalize rotr x 17 ^^^ rotr x 19 ^^^ (x >>> UInt32.ofNat 10) = z at *
  generalize rotr x 17 ^^^ rotr x 19 = y at *
  have E1 := Lib.hid e1
  have E2 := Lib.hid e2
  clear e1 e2 hr
  generalize rotr x 17 = ra at *
  generalize rotr x 19 = rb at *
  go_enter Tryd.func93, Tryd.ntmps93
  go_wp2_with (first
    | (go_at_call 95; with_reducible refine (E1.out _).mono ?_; rintro e w1 ⟨rfl, rfl⟩)
    | (go_at_call 95; with_reducible refine (E2.out _).mono ?_; rintro e w1 ⟨rfl, rfl⟩))
  go_ret
  exact ⟨rfl, rfl⟩

theorem not_u32 (x : UInt32) : bits .xor .u32 IntKind.u32.max (x.toNat : Int) = ((~~~x).toNat : Int) := by
  have h : (4294967295 : UInt32) ^^^ x = ~~~x := by
    apply UInt32.eq_of_toBitVec_eq
    rw [UInt32.toBitVec_xor, UInt32.toBitVec_not]
    exact BitVec.allOnes_xor
  rw [← h, ← xor_u32]
  rfl
theorem choose_any (x y z : UInt32) (w : World) : Calls Tryd.prog 79 #[.int .u32 (x.toNat : Int), .int .u32 (y.toNat : Int), .int .u32 (z.toNat : Int)] w fun e w' => e = .returned (.int .u32 ((chs x y z).toNat : Int)) ∧ w = w' := by
  have h1 := and_u32 x y
  have h2 := not_u32 x
  have h3 := and_u32 (~~~x) z
  have h4 := xor_u32 (x &&& y) (~~~x &&& z)
  have hr : chs x y z = (x &&& y) ^^^ (~~~x &&& z) := rfl
  rw [hr]
  generalize (x &&& y) ^^^ (~~~x &&& z) = q at *
  generalize (~~~x &&& z) = r at *
  generalize (x &&& y) = s at *
  generalize ~~~x = n at *
  clear hr
  go_enter Tryd.func79, Tryd.ntmps79
  go_wp2
  go_ret
  exact ⟨rfl, rfl⟩
theorem majority_any (x y z : UInt32) (w : World) : Calls Tryd.prog 81 #[.int .u32 (x.toNat : Int), .int .u32 (y.toNat : Int), .int .u32 (z.toNat : Int)] w fun e w' => e = .returned (.int .u32 ((maj x y z).toNat : Int)) ∧ w = w' := by
  have h1 := and_u32 x y
  have h2 := and_u32 x z
  have h3 := and_u32 y z
  have h4 := xor_u32 (x &&& y) (x &&& z)
  have h5 := xor_u32 ((x &&& y) ^^^ (x &&& z)) (y &&& z)
  have hr : maj x y z = (x &&& y) ^^^ (x &&& z) ^^^ (y &&& z) := rfl
  rw [hr]
  generalize (x &&& y) ^^^ (x &&& z) ^^^ (y &&& z) = q at *
  generalize (x &&& y) ^^^ (x &&& z) = r at *
  generalize (x &&& y) = s at *
  generalize (x &&& z) = t at *
  generalize (y &&& z) = u at *
  clear hr
  go_enter Tryd.func81, Tryd.ntmps81
  go_wp2
  go_ret
  exact ⟨rfl, rfl⟩
end Go.Proofs.YtaanhancjmigdaaDoor
namespace Go.Proofs.YtaanhancjmigdaaDoor
open Go.RowKit

/-- The word of four bytes. -/
def wordOf (a b c d : UInt8) : UInt32 := UInt32.ofNat (a.toNat * 16777216 + b.toNat * 65536 + c.toNat * 256 + d.toNat)
theorem ofNat_toNat32 (n : Nat) (h : n < 4294967296) : (UInt32.ofNat n).toNat = n := by rw [UInt32.toNat_ofNat']; exact Nat.mod_eq_of_lt h
theorem or_disjoint (x y k : Nat) (hy : y < 2 ^ k) : 2 ^ k * x ||| y = 2 ^ k * x + y := (Nat.two_pow_add_eq_or_of_lt hy x).symm
theorem or_nat (x y : Nat) (hx : x < 4294967296) (hy : y < 4294967296) : bits .or .u32 (x : Int) (y : Int) = ((x ||| y : Nat) : Int) := by
  have h := or_u32 (UInt32.ofNat x) (UInt32.ofNat y)
  rw [UInt32.toNat_or, ofNat_toNat32 x hx, ofNat_toNat32 y hy] at h
  exact h
theorem word_bits1 (a b : UInt8) : bits .or .u32 ((a.toNat : Int) * 16777216) ((b.toNat : Int) * 65536) = ((a.toNat * 16777216 + b.toNat * 65536 : Nat) : Int) := by
  have ha := a.toNat_lt
  have hb := b.toNat_lt
  have h := or_nat (a.toNat * 16777216) (b.toNat * 65536) (by omega) (by omega)
  have hd := or_disjoint a.toNat (b.toNat * 65536) 24 (by omega)
  rw [show 2 ^ 24 * a.toNat = a.toNat * 16777216 by omega] at hd
  rw [hd] at h
  rw [← h, show (a.toNat : Int) * 16777216 = ((a.toNat * 16777216 : Nat) : Int) by omega, show (b.toNat : Int) * 65536 = ((b.toNat * 65536 : Nat) : Int) by omega]
theorem word_bits2 (a b c : UInt8) : bits .or .u32 ((a.toNat * 16777216 + b.toNat * 65536 : Nat) : Int) ((c.toNat : Int) * 256) = ((a.toNat * 16777216 + b.toNat * 65536 + c.toNat * 256 : Nat) : Int) := by
  have ha := a.toNat_lt
  have hb := b.toNat_lt
  have hc := c.toNat_lt
  have h := or_nat (a.toNat * 16777216 + b.toNat * 65536) (c.toNat * 256) (by omega) (by omega)
  have hd := or_disjoint (a.toNat * 256 + b.toNat) (c.toNat * 256) 16 (by omega)
  rw [show 2 ^ 16 * (a.toNat * 256 + b.toNat) = a.toNat * 16777216 + b.toNat * 65536 by omega] at hd
  rw [hd] at h
  rw [← h, show (c.toNat : Int) * 256 = ((c.toNat * 256 : Nat) : Int) by omega]
theorem word_bits3 (a b c d : UInt8) : bits .or .u32 ((a.toNat * 16777216 + b.toNat * 65536 + c.toNat * 256 : Nat) : Int) (d.toNat : Int) = ((wordOf a b c d).toNat : Int) := by
  have ha := a.toNat_lt
  have hb := b.toNat_lt
  have hc := c.toNat_lt
  have hd := d.toNat_lt
  have h := or_nat (a.toNat * 16777216 + b.toNat * 65536 + c.toNat * 256) d.toNat (by omega) (by omega)
  have hs := or_disjoint (a.toNat * 65536 + b.toNat * 256 + c.toNat) d.toNat 8 (by omega)
  rw [show 2 ^ 8 * (a.toNat * 65536 + b.toNat * 256 + c.toNat) = a.toNat * 16777216 + b.toNat * 65536 + c.toNat * 256 by omega] at hs
  rw [h, hs, wordOf, ofNat_toNat32 _ (by omega)]

theorem word_steps (a b c d : UInt8) : ∃ x y : Int, bits .or .u32 ((a.toNat : Int) * 16777216) ((b.toNat : Int) * 65536) = x ∧ bits .or .u32 x ((c.toNat : Int) * 256) = y ∧ bits .or .u32 y (d.toNat : Int) = ((wordOf a b c d).toNat : Int) :=
  ⟨_, _, word_bits1 a b, word_bits2 a b c, word_bits3 a b c d⟩
theorem word_any (g off n cap : Nat) (a b c d : UInt8) (w : World) (hn : 4 ≤ n)
    (c0 : w.cell? ⟨g, off, none⟩ = some (.int .u8 (a.toNat : Int))) (c1 : w.cell? ⟨g, off + 1, none⟩ = some (.int .u8 (b.toNat : Int)))
    (c2 : w.cell? ⟨g, off + 2, none⟩ = some (.int .u8 (c.toNat : Int))) (c3 : w.cell? ⟨g, off + 3, none⟩ = some (.int .u8 (d.toNat : Int))) :
    Calls Tryd.prog 92 #[.slice (some ⟨g, off, none⟩) n cap] w fun e w' => e = .returned (.int .u32 ((wordOf a b c d).toNat : Int)) ∧ w.grownBy w' none := by
  obtain ⟨x, y, h1, h2, h3⟩ := word_steps a b c d
  have ha := a.toNat_lt
  have hb := b.toNat_lt
  have hc := c.toNat_lt
  have hd := d.toNat_lt
  have e1 : (a.toNat : Int) * 16777216 % 4294967296 = (a.toNat : Int) * 16777216 := by omega
  have e2 : (b.toNat : Int) * 65536 % 4294967296 = (b.toNat : Int) * 65536 := by omega
  have e3 : (c.toNat : Int) * 256 % 4294967296 = (c.toNat : Int) * 256 := by omega
  have i0 : (0 : Int) < (n : Int) := by omega
  have i1 : (1 : Int) < (n : Int) := by omega
  have i2 : (2 : Int) < (n : Int) := by omega
  have i3 : (3 : Int) < (n : Int) := by omega
  go_enter Tryd.func92, Tryd.ntmps92
  go_wp2
  go_quiet (fail)
  go_wp2
  go_ret
  exact ⟨rfl, ⟨rfl, rfl, rfl, Nat.le_refl _, fun _ _ _ => rfl⟩⟩

/-- The four bytes of a word. -/
def bytesOf (x : UInt32) : List UInt8 := [UInt8.ofNat (x.toNat / 16777216), UInt8.ofNat (x.toNat / 65536), UInt8.ofNat (x.toNat / 256), UInt8.ofNat x.toNat]
theorem bytesOf_length (x : UInt32) : (bytesOf x).length = 4 := rfl
theorem bcells_four (a b c d : UInt8) : bcells [a, b, c, d] = [.int .u8 (a.toNat : Int), .int .u8 (b.toNat : Int), .int .u8 (c.toNat : Int), .int .u8 (d.toNat : Int)] := rfl
theorem bytesOf_cells (x : UInt32) : ∃ y0 y1 y2 y3 : Nat, bcells (bytesOf x) = [.int .u8 (y0 : Int), .int .u8 (y1 : Int), .int .u8 (y2 : Int), .int .u8 (y3 : Int)] ∧
    (x.toNat : Int) / 16777216 = (y0 : Int) ∧ (x.toNat : Int) / 65536 % 256 = (y1 : Int) ∧ (x.toNat : Int) / 256 % 256 = (y2 : Int) ∧ (x.toNat : Int) % 256 = (y3 : Int) :=
  ⟨_, _, _, _, bcells_four _ _ _ _, by have := x.toNat_lt; simp; omega, by simp, by simp, by simp⟩
theorem over_four (cs : List Value) (off : Nat) (a b c d : Value) (h : off + 4 ≤ cs.length) : (((cs.set off a).set (off + 1) b).set (off + 2) c).set (off + 3) d = over cs off [a, b, c, d] := by
  apply List.ext_getElem?
  intro i
  rw [over]
  simp only [List.getElem?_set, List.length_set, List.append_assoc]
  by_cases h1 : i < off
  · rw [List.getElem?_append_left (by rw [List.length_take]; omega), List.getElem?_take_of_lt h1]
    rw [if_neg (by omega), if_neg (by omega), if_neg (by omega), if_neg (by omega)]
  · rw [List.getElem?_append_right (by rw [List.length_take]; omega), List.length_take, Nat.min_eq_left (by omega)]
    rcases (by omega : i = off ∨ i = off + 1 ∨ i = off + 2 ∨ i = off + 3 ∨ off + 4 ≤ i) with rfl | rfl | rfl | rfl | h4
    · simp; omega
    · simp; omega
    · simp; omega
    · simp; omega
    · rw [if_neg (by omega), if_neg (by omega), if_neg (by omega), if_neg (by omega), List.getElem?_append_right (by simp; omega), List.getElem?_drop]
      congr 1
      simp
      omega

set_option maxHeartbeats 1000000 in
theorem putWord_any (g off n cap : Nat) (t : TypeId) (cs : List Value) (x : UInt32) (w : World) (hn : 4 ≤ n) (h : CB w g t cs) (hl : off + 4 ≤ cs.length) :
    Calls Tryd.prog 65 #[.slice (some ⟨g, off, none⟩) n cap, .int .u32 (x.toNat : Int)] w fun e w' => e = .returned (.tuple #[]) ∧ CB w' g t (over cs off (bcells (bytesOf x))) ∧ w.grownBy w' (some g) := by
  have hb := x.toNat_lt
  have H := Lib.hid h
  have l0 : off < cs.length := by omega
  have l1 : ∀ a, off + 1 < (cs.set off a).length := fun a => by rw [List.length_set]; omega
  have l2 : ∀ a b, off + 2 < ((cs.set off a).set (off + 1) b).length := fun a b => by rw [List.length_set, List.length_set]; omega
  have l3 : ∀ a b c, off + 3 < (((cs.set off a).set (off + 1) b).set (off + 2) c).length := fun a b c => by rw [List.length_set, List.length_set, List.length_set]; omega
  have L0 := Lib.hid l0
  have L1 := Lib.hid l1
  have L2 := Lib.hid l2
  have L3 := Lib.hid l3
  clear l0 l1 l2 l3
  have i0 : (0 : Int) < (n : Int) := by omega
  have i1 : (1 : Int) < (n : Int) := by omega
  have i2 : (2 : Int) < (n : Int) := by omega
  have i3 : (3 : Int) < (n : Int) := by omega
  obtain ⟨y0, y1, y2, y3, hy, hb0, hb1, hb2, hb3⟩ := bytesOf_cells x
  rw [hy]
  clear hy
  have HR : Hid (∀ w' : World, CB w' g t ((((cs.set off (.int .u8 (y0 : Int))).set (off + 1) (.int .u8 (y1 : Int))).set (off + 2) (.int .u8 (y2 : Int))).set (off + 3) (.int .u8 (y3 : Int))) → CB w' g t (over cs off [.int .u8 (y0 : Int), .int .u8 (y1 : Int), .int .u8 (y2 : Int), .int .u8 (y3 : Int)])) := fun w' h => by
    rw [over_four _ _ _ _ _ _ hl] at h
    exact h
  clear h
  clear hl hn
  go_enter Tryd.func65, Tryd.ntmps65
  go_wp2_with (first
    | (refine wpList_setC sz8 rfl (.tmp 19) (.tmp 10) rfl .u8 y0 H.out L0.out rfl rfl ?_; intro w1 h1 g1; have H1 := Lib.hid h1; have G1 := Lib.hid g1; clear h1 g1)
    | (refine wpList_setC sz8 rfl (.tmp 20) (.tmp 13) rfl .u8 y1 H1.out (L1.out _) rfl rfl ?_; intro w2 h2 g2; have H2 := Lib.hid h2; have G2 := Lib.hid (grown_trans' G1.out g2); clear h2 g2)
    | (refine wpList_setC sz8 rfl (.tmp 21) (.tmp 16) rfl .u8 y2 H2.out (L2.out _ _) rfl rfl ?_; intro w3 h3 g3; have H3 := Lib.hid h3; have G3 := Lib.hid (grown_trans' G2.out g3); clear h3 g3)
    | (refine wpList_setC sz8 rfl (.tmp 22) (.tmp 18) rfl .u8 y3 H3.out (L3.out _ _ _) rfl rfl ?_; intro w4 h4 g4; have H4 := Lib.hid (HR.out _ h4); have G4 := Lib.hid (grown_trans' G3.out g4); clear h4 g4))
  go_end0
  exact ⟨rfl, H4.out, G4.out⟩
end Go.Proofs.YtaanhancjmigdaaDoor
namespace Go.Proofs.YtaanhancjmigdaaDoor
open Go.RowKit

/-- The cells of words. -/
def wcells (l : List UInt32) : List Value := l.map fun u => Value.int .u32 (u.toNat : Int)
theorem wcells_length (l : List UInt32) : (wcells l).length = l.length := by simp [wcells]
theorem wcells_at (l : List UInt32) (k : Nat) : (wcells l)[k]? = (l[k]?).map fun u => Value.int .u32 (u.toNat : Int) := by simp [wcells]
theorem wcells_set (l : List UInt32) (k : Nat) (u : UInt32) : (wcells l).set k (.int .u32 (u.toNat : Int)) = wcells (l.set k u) := by simp [wcells, List.map_set]
theorem wcells_one (l : List UInt32) : ∀ u ∈ wcells l, u.oneCell' = true := by
  intro u hu
  obtain ⟨_, _, rfl⟩ := List.mem_map.1 hu
  rfl
theorem wcells_some {l : List UInt32} {k : Nat} {u : UInt32} (h : l[k]? = some u) : (wcells l)[k]? = some (.int .u32 (u.toNat : Int)) := by rw [wcells_at, h]; rfl
theorem add_u32w (a b : UInt32) : IntKind.u32.wrap ((a.toNat : Int) + (b.toNat : Int)) = ((a + b).toNat : Int) := by
  rw [show ∀ y, IntKind.u32.wrap y = y % 4294967296 from fun _ => rfl, add_u32]
/-- n words of noughts. -/
def wz (n : Nat) : List UInt32 := List.replicate n 0
theorem wz_length (n : Nat) : (wz n).length = n := by simp [wz]

section
variable {P : Program} {w : World} {ops : Array Oper} {rest : List Oper} {o : Oper} {a : Act} {Q : Exit → Act → World → Prop} {ty : TypeId} {cs : List Value}
end

theorem agg64 : AggT Tryd.prog 106 64 := ⟨fun _ => by kernel_rfl, by kernel_rfl⟩
theorem zero64 (w : World) : (zeroValue 106).run Tryd.prog w = .ok (.agg (wcells (wz 64)).toArray) w := by kernel_rfl
theorem sz32 : (Tryd.prog.info? 101).map (·.size) = some 1 := by kernel_rfl
theorem sz64 : (Tryd.prog.info? 106).map (·.size) = some 64 := by kernel_rfl

/-- Word k of the schedule, out of the words before it. -/
def schedNew (bl : List UInt8) (ws : List UInt32) (k : Nat) : UInt32 :=
  if k < 16 then wordOf (bl.getD (4 * k) 0) (bl.getD (4 * k + 1) 0) (bl.getD (4 * k + 2) 0) (bl.getD (4 * k + 3) 0)
  else sLate (ws.getD (k - 2) 0) + ws.getD (k - 7) 0 + sEarly (ws.getD (k - 15) 0) + ws.getD (k - 16) 0
/-- The schedule, its first k words laid. -/
def schedTo (bl : List UInt8) : Nat → List UInt32
  | 0 => wz 64
  | k + 1 => (schedTo bl k).set k (schedNew bl (schedTo bl k) k)
theorem schedTo_length (bl : List UInt8) : ∀ k, (schedTo bl k).length = 64
  | 0 => wz_length 64
  | k + 1 => by rw [schedTo, List.length_set, schedTo_length bl k]
def sched (bl : List UInt8) : List UInt32 := schedTo bl 64
theorem sched_length (bl : List UInt8) : (sched bl).length = 64 := schedTo_length bl 64
theorem getD_some {α : Type} {l : List α} {k : Nat} {u d : α} (h : l[k]? = some u) : l.getD k d = u := by rw [List.getD, h]; rfl

theorem CB.new2 (w : World) (o1 o2 : Obj) (t : TypeId) (cs : List Value) : CB (((w.alloc o1).alloc o2).alloc (.cells cs.toArray t)) (w.heap.size + 2) t cs := by
  have := CB.new ((w.alloc o1).alloc o2) t cs
  rw [World.size_alloc, World.size_alloc] at this
  exact this

set_option maxRecDepth 10000 in
set_option maxHeartbeats 1000000 in
theorem schedule_any (bl : List UInt8) (hl : bl.length = 64) (w : World) :
    Calls Tryd.prog 77 #[.agg (bcells bl).toArray] w fun e w' => e = .returned (.agg (wcells (sched bl)).toArray) ∧ w.grownBy w' none := by
  have HL := Lib.hid hl
  clear hl
  go_enter Tryd.func77, Tryd.ntmps77
  go_wp2_with (refine wpList_allocC zero64 rfl rfl ?_)
  go_loopw [6] (fun i wr => ∃ k : Nat, i = .int .i64 k ∧ k ≤ 16 ∧ CB wr w.heap.size 74 (bcells bl) ∧ CB wr (w.heap.size + 1) 106 (wcells (wz 64)) ∧ CB wr (w.heap.size + 2) 106 (wcells (schedTo bl k)) ∧ w.grownBy wr none) (fun i _ => 16 - (intOf i).toNat)
  case atStart => exact ⟨0, rfl, by omega, ((CB.new w _ _).alloc _).alloc _, (CB.new1 w _ _ _).alloc _, CB.new2 w _ _ _ _, grown_trans' (grown_trans' (grown_alloc _ _ _) (grown_alloc _ _ _)) (grown_alloc _ _ _)⟩
  case round =>
    obtain ⟨k, rfl, hk, hB, hR, hW, hG⟩ := hrel
    have hgs := hG.size
    by_cases hlt : k < 16
    · obtain ⟨m, hm⟩ : ∃ m, m = 4 * k := ⟨_, rfl⟩
      obtain ⟨a, ha⟩ : ∃ u, bl[m]? = some u := ⟨_, List.getElem?_eq_getElem (by rw [HL.out]; omega)⟩
      obtain ⟨b, hb⟩ : ∃ u, bl[m + 1]? = some u := ⟨_, List.getElem?_eq_getElem (by rw [HL.out]; omega)⟩
      obtain ⟨c, hc⟩ : ∃ u, bl[m + 2]? = some u := ⟨_, List.getElem?_eq_getElem (by rw [HL.out]; omega)⟩
      obtain ⟨d, hd⟩ : ∃ u, bl[m + 3]? = some u := ⟨_, List.getElem?_eq_getElem (by rw [HL.out]; omega)⟩
      have hn : schedTo bl (k + 1) = (schedTo bl k).set k (wordOf a b c d) := by
        rw [schedTo, schedNew, if_pos hlt, ← hm, getD_some ha, getD_some hb, getD_some hc, getD_some hd]
      have HN := Lib.hid hn
      have C0 := Lib.hid (hB.at_ (bcells_some ha))
      have C1 := Lib.hid (hB.at_ (bcells_some hb))
      have C2 := Lib.hid (hB.at_ (bcells_some hc))
      have C3 := Lib.hid (hB.at_ (bcells_some hd))
      have HB := Lib.hid hB
      have HR := Lib.hid hR
      have HW := Lib.hid hW
      have HG := Lib.hid hG
      have hki : (k : Int) < 16 := by omega
      have w1 : (k : Int) * 4 = (m : Int) := by omega
      have w2 : IntKind.i64.wrap (m : Int) = (m : Int) := by rw [IntKind.wrap_i64]; omega
      have b1 : (m : Int) ≤ 64 := by omega
      have b2 : ¬ (64 = m) := by omega
      have b3 : (m : Int) < 64 := by omega
      have h4 : 4 ≤ 64 - m := by omega
      clear hn ha hb hc hd hB hR hW hG hm
      go_wp2_with (first
        | (go_at_call 92; refine (word_any _ m _ _ a b c d _ h4 C0.out C1.out C2.out C3.out).mono ?_; rintro e w3 ⟨rfl, hg3⟩; have HW3 := Lib.hid (HW.out.kept hg3); have HB3 := Lib.hid (HB.out.kept hg3); have HR3 := Lib.hid (HR.out.kept hg3); have HG3 := Lib.hid (grown_trans' HG.out hg3); clear hg3)
        | (refine wpList_setC sz32 rfl (.tmp 14) (.tmp 13) rfl .u32 _ HW3.out (by rw [wcells_length, schedTo_length]; omega) rfl rfl ?_; intro w4 h4 g4; rw [wcells_set] at h4; have HW4 := Lib.hid h4; have HB4 := Lib.hid (HB3.out.grown g4 (by omega)); have HR4 := Lib.hid (HR3.out.grown g4 (by omega)); have HG4 := Lib.hid (none_new HG3.out g4 (by omega)); clear h4 g4))
      go_roundw
      case rel => exact ⟨k + 1, by go_num, by omega, HB4.out, HR4.out, by rw [HN.out]; exact HW4.out, HG4.out⟩
      case measure => simp [intOf]; omega
    · obtain rfl : k = 16 := by omega
      have HR := Lib.hid hR
      have HW := Lib.hid hW
      have HG := Lib.hid hG
      clear hR hW hG hB
      obtain ⟨w9, hw9⟩ : ∃ w9 : World, w9 = wr := ⟨_, rfl⟩
      rw [← hw9] at HR HW HG
      clear hgs
      subst hw9
      rw [show ((16 : Nat) : Int) = 16 from rfl]
      go_wp2
      go_loopw [5] (fun i wr => ∃ k : Nat, i = .int .i64 k ∧ 16 ≤ k ∧ k ≤ 64 ∧ CB wr (w.heap.size + 1) 106 (wcells (wz 64)) ∧ CB wr (w.heap.size + 2) 106 (wcells (schedTo bl k)) ∧ w.grownBy wr none) (fun i _ => 64 - (intOf i).toNat)
      case atStart => exact ⟨16, rfl, by omega, by omega, HR.out, HW.out, HG.out⟩
      case round =>
        obtain ⟨k, rfl, hk, hk2, hR, hW, hG⟩ := hrel
        have hgs := hG.size
        by_cases hlt : k < 64
        · obtain ⟨q2, e2⟩ : ∃ m, m = k - 2 := ⟨_, rfl⟩
          obtain ⟨q7, e7⟩ : ∃ m, m = k - 7 := ⟨_, rfl⟩
          obtain ⟨q15, e15⟩ : ∃ m, m = k - 15 := ⟨_, rfl⟩
          obtain ⟨q16, e16⟩ : ∃ m, m = k - 16 := ⟨_, rfl⟩
          obtain ⟨x2, h2⟩ : ∃ u, (schedTo bl k)[q2]? = some u := ⟨_, List.getElem?_eq_getElem (by rw [schedTo_length]; omega)⟩
          obtain ⟨x7, h7⟩ : ∃ u, (schedTo bl k)[q7]? = some u := ⟨_, List.getElem?_eq_getElem (by rw [schedTo_length]; omega)⟩
          obtain ⟨x15, h15⟩ : ∃ u, (schedTo bl k)[q15]? = some u := ⟨_, List.getElem?_eq_getElem (by rw [schedTo_length]; omega)⟩
          obtain ⟨x16, h16⟩ : ∃ u, (schedTo bl k)[q16]? = some u := ⟨_, List.getElem?_eq_getElem (by rw [schedTo_length]; omega)⟩
          have hn : schedTo bl (k + 1) = (schedTo bl k).set k (sLate x2 + x7 + sEarly x15 + x16) := by
            rw [schedTo, schedNew, if_neg (by omega), ← e2, ← e7, ← e15, ← e16, getD_some h2, getD_some h7, getD_some h15, getD_some h16]
          have c2 := hW.at_ (wcells_some h2)
          have c7 := hW.at_ (wcells_some h7)
          have c15 := hW.at_ (wcells_some h15)
          have c16 := hW.at_ (wcells_some h16)
          have HN := Lib.hid hn
          have hd1 := fun W => (spreadLate_any x2 W).mono fun _ _ h => And.intro h.1 h.2.symm
          have hd2 := fun W => (spreadEarly_any x15 W).mono fun _ _ h => And.intro h.1 h.2.symm
          have a1 := add_u32w (sLate x2) x7
          have a2 := add_u32w (sLate x2 + x7) (sEarly x15)
          have a3 := add_u32w (sLate x2 + x7 + sEarly x15) x16
          generalize sLate x2 + x7 + sEarly x15 + x16 = z at *
          generalize sLate x2 + x7 + sEarly x15 = y at *
          generalize sLate x2 + x7 = x at *
          generalize sEarly x15 = s15 at *
          generalize sLate x2 = s2 at *
          have HD1 := Lib.hid hd1
          have HD2 := Lib.hid hd2
          have w2 : IntKind.i64.wrap ((k : Int) - 2) = (q2 : Int) := by rw [IntKind.wrap_i64]; omega
          have w7 : IntKind.i64.wrap ((k : Int) - 7) = (q7 : Int) := by rw [IntKind.wrap_i64]; omega
          have w15 : IntKind.i64.wrap ((k : Int) - 15) = (q15 : Int) := by rw [IntKind.wrap_i64]; omega
          have w16 : IntKind.i64.wrap ((k : Int) - 16) = (q16 : Int) := by rw [IntKind.wrap_i64]; omega
          have b2 : (q2 : Int) < 64 := by omega
          have b7 : (q7 : Int) < 64 := by omega
          have b15 : (q15 : Int) < 64 := by omega
          have b16 : (q16 : Int) < 64 := by omega
          have hki : (k : Int) < 64 := by omega
          have HLT := Lib.hid hlt
          have HK := Lib.hid hk
          have HWL := Lib.hid (show k < (wcells (schedTo bl k)).length by rw [wcells_length, schedTo_length]; exact hlt)
          have HR := Lib.hid hR
          have HW := Lib.hid hW
          have HG := Lib.hid hG
          clear hn hd1 hd2 hR hW hG h2 h7 h15 h16 e2 e7 e15 e16 hlt hk hk2
          go_wp2
          go_still_tail 23, (by kernel_rfl)
          still_call (HD1.out _)
          repeat still_step
          still_call (HD2.out _)
          repeat still_step
          refine wpStill_nil ?_
          clear w2 w7 w15 w16
          change wpList _ _ _ _ _ wr.drew
          go_wp2_with (refine wpList_setC sz32 rfl (.tmp 42) (.tmp 41) rfl .u32 _ HW.out.drew HWL.out rfl rfl ?_; intro w4 h4 g4; rw [wcells_set] at h4; have HW4 := Lib.hid h4; have HR4 := Lib.hid (HR.out.drew.grown g4 (by omega)); have HG4 := Lib.hid (none_new (grown_drew HG.out) g4 (by omega)); clear h4 g4)
          go_roundw
          case rel => exact ⟨k + 1, by go_num, by have := HK.out; omega, by have := HLT.out; omega, HR4.out, by rw [HN.out]; exact HW4.out, HG4.out⟩
          case measure => have := HLT.out; simp [intOf]; omega
        · obtain rfl : k = 64 := by omega
          have HR := Lib.hid hR
          have HW := Lib.hid hW
          have HG := Lib.hid hG
          clear hR hW hG
          go_wp2_with (first
            | refine wpList_loadC (p := wcells (sched bl)) agg64 rfl (.tmp 3) rfl HW.out (by rw [List.drop_zero]; exact List.take_of_length_le (by rw [wcells_length, schedTo_length]; omega)) (by rw [wcells_length, schedTo_length]; omega) rfl ?_
            | (refine wpList_storeC (p := wcells (sched bl)) sz64 rfl (.tmp 2) (.tmp 43) rfl (.agg (wcells (sched bl)).toArray) rfl (wcells_one _) HR.out (by rw [wcells_length, sched_length]) (by rw [wcells_length, wz_length]; omega) rfl rfl ?_; intro w5 h5 g5))
          have ho : over (wcells (wz 64)) 0 (wcells (sched bl)) = wcells (sched bl) := by
            rw [over, List.take_zero, List.nil_append, List.drop_eq_nil_of_le (by rw [wcells_length, wcells_length, sched_length, wz_length]; omega), List.append_nil]
          rw [ho] at h5
          exact bodyPost_ret (results_C Tryd.underlying106 sz64 rfl _ h5 (by rw [wcells_length, sched_length]) rfl) rfl ⟨rfl, none_new HG.out g5 (by omega)⟩
end Go.Proofs.YtaanhancjmigdaaDoor
namespace Go.Proofs.YtaanhancjmigdaaDoor
open Go.RowKit

def roundK : List UInt32 := [0x428a2f98, 0x71374491, 0xb5c0fbcf, 0xe9b5dba5, 0x3956c25b, 0x59f111f1, 0x923f82a4, 0xab1c5ed5, 0xd807aa98, 0x12835b01, 0x243185be, 0x550c7dc3, 0x72be5d74, 0x80deb1fe, 0x9bdc06a7, 0xc19bf174, 0xe49b69c1, 0xefbe4786, 0x0fc19dc6, 0x240ca1cc, 0x2de92c6f, 0x4a7484aa, 0x5cb0a9dc, 0x76f988da, 0x983e5152, 0xa831c66d, 0xb00327c8, 0xbf597fc7, 0xc6e00bf3, 0xd5a79147, 0x06ca6351, 0x14292967, 0x27b70a85, 0x2e1b2138, 0x4d2c6dfc, 0x53380d13, 0x650a7354, 0x766a0abb, 0x81c2c92e, 0x92722c85, 0xa2bfe8a1, 0xa81a664b, 0xc24b8b70, 0xc76c51a3, 0xd192e819, 0xd6990624, 0xf40e3585, 0x106aa070, 0x19a4c116, 0x1e376c08, 0x2748774c, 0x34b0bcb5, 0x391c0cb3, 0x4ed8aa4a, 0x5b9cca4f, 0x682e6ff3, 0x748f82ee, 0x78a5636f, 0x84c87814, 0x8cc70208, 0x90befffa, 0xa4506ceb, 0xbef9a3f7, 0xc67178f2]
theorem roundK_length : roundK.length = 64 := rfl

/-- The eight words of the rounds. -/
structure S8 where
  (a b c d e f g h : UInt32)
def S8.list (s : S8) : List UInt32 := [s.a, s.b, s.c, s.d, s.e, s.f, s.g, s.h]
def s8of (ws : List UInt32) : S8 := ⟨ws.getD 0 0, ws.getD 1 0, ws.getD 2 0, ws.getD 3 0, ws.getD 4 0, ws.getD 5 0, ws.getD 6 0, ws.getD 7 0⟩
def lowOf (s : S8) (K x : UInt32) : UInt32 := s.h + sLow s.e + chs s.e s.f s.g + K + x
def highOf (s : S8) : UInt32 := sHigh s.a + maj s.a s.b s.c
def stepS (s : S8) (K x : UInt32) : S8 := ⟨lowOf s K x + highOf s, s.a, s.b, s.c, s.d + lowOf s K x, s.e, s.f, s.g⟩
def roundsTo (ws sch : List UInt32) : Nat → S8
  | 0 => s8of ws
  | k + 1 => stepS (roundsTo ws sch k) (roundK.getD k 0) (sch.getD k 0)
def finOf (ws : List UInt32) (bl : List UInt8) : List UInt32 := (roundsTo ws (sched bl) 64).list
def compress (ws : List UInt32) (bl : List UInt8) : List UInt32 := (List.range 8).map fun i => ws.getD i 0 + (finOf ws bl).getD i 0
theorem compress_length (ws : List UInt32) (bl : List UInt8) : (compress ws bl).length = 8 := by simp [compress]

/-- The table of the rounds' words lies where it lies. -/
def TB (w : World) : Prop := ∀ k u, roundK[k]? = some u → w.cell? ⟨0, k, none⟩ = some (.int .u32 (u.toNat : Int))
theorem TB.lt {w : World} (h : TB w) : 0 < w.heap.size := World.block_lt_of_cell? w _ (h 0 _ rfl)
theorem TB.grown {w w' : World} {r : Option Nat} (h : TB w) (hg : w.grownBy w' r) (hr : r ≠ some 0) : TB w' := fun k u hu =>
  (World.cell?_of_block (hg.block 0 h.lt (fun e => hr e.symm))).trans (h k u hu)

/-- The cells of a Hasher. -/
def hcells (ws : List UInt32) (bl : List UInt8) (c : Nat) : List Value := wcells ws ++ bcells bl ++ [.int .u64 (c : Int)]
section
variable {ws : List UInt32} {bl : List UInt8} {c : Nat}
theorem hcells_length (hw : ws.length = 8) (hb : bl.length = 64) : (hcells ws bl c).length = 73 := by
  simp [hcells, wcells_length, bcells_length, hw, hb]
theorem hcells_word (_hw : ws.length = 8) {i : Nat} {u : UInt32} (h : ws[i]? = some u) : (hcells ws bl c)[i]? = some (.int .u32 (u.toNat : Int)) := by
  have hi : i < ws.length := (List.getElem?_eq_some_iff.1 h).1
  rw [hcells, List.append_assoc, List.getElem?_append_left (by rw [wcells_length]; exact hi)]
  exact wcells_some h
theorem hcells_block (hw : ws.length = 8) (hb : bl.length = 64) : ((hcells ws bl c).drop 8).take 64 = bcells bl := by
  rw [hcells, List.append_assoc, List.drop_left' (by rw [wcells_length, hw]), List.take_left' (by rw [bcells_length, hb])]
theorem hcells_count (hw : ws.length = 8) (hb : bl.length = 64) : (hcells ws bl c)[72]? = some (.int .u64 (c : Int)) := by
  rw [hcells, List.getElem?_append_right (by rw [List.length_append, wcells_length, bcells_length, hw, hb]; omega), List.length_append, wcells_length, bcells_length, hw, hb]
  rfl
theorem hcells_setw (hw : ws.length = 8) (i : Nat) (hi : i < 8) (u : UInt32) : (hcells ws bl c).set i (.int .u32 (u.toNat : Int)) = hcells (ws.set i u) bl c := by
  rw [hcells, List.append_assoc, List.set_append_left _ _ (by rw [wcells_length, hw]; exact hi), wcells_set, ← List.append_assoc]
  rfl
theorem hcells_setc (hw : ws.length = 8) (hb : bl.length = 64) (c' : Nat) : (hcells ws bl c).set 72 (.int .u64 (c' : Int)) = hcells ws bl c' := by
  rw [hcells, List.set_append_right _ _ (by rw [List.length_append, wcells_length, bcells_length, hw, hb]; omega), List.length_append, wcells_length, bcells_length, hw, hb]
  rfl
theorem hcells_wget (hw : ws.length = 8) (i : Nat) (hi : i < 8) : (hcells ws bl c)[i]? = some (.int .u32 ((ws.getD i 0).toNat : Int)) := by
  have h := List.getElem?_eq_getElem (l := ws) (i := i) (by omega)
  rw [hcells_word hw h, getD_some h]
end

/-- 'a[i]' of an array of words by value. -/
theorem run_indexW {P : Program} {t e : TypeId} {n : Nat} (ht : P.underlying t = some (.array n e)) (he : (P.info? e).map (·.size) = some 1) (hu8 : P.underlying e = some (.int .u32)) {l : List UInt32} (hl : l.length = n) {k : Nat} {u : UInt32} (hu : l[k]? = some u) (w : World) :
    (Instr.index t (.agg (wcells l).toArray) (.int .i64 (k : Int))).run P w = .ok (.int .u32 (u.toNat : Int)) w := by
  have hk : k < l.length := (List.getElem?_eq_some_iff.1 hu).1
  have hn : (0 : Int) ≤ (k : Int) ∧ (k : Int) < (n : Int) := by omega
  have hkn : k < n := by omega
  have hag : ∀ w, (isAgg e).run P w = .ok false w := by
    intro w
    unfold isAgg
    rw [Sem.run_bind, run_underlying hu8 w]
    rfl
  have hc : (wcells l)[k]? = some (.int .u32 (u.toNat : Int)) := wcells_some hu
  cases hq : P.info? e with
  | none => simp [hq] at he
  | some i =>
    have hi : i.size = 1 := by simpa [hq] using he
    simp [Instr.index, run_underlying ht, asIntOf, hkn, go_sem, sizeOf, typeInfo, hq, hi, hag, hc]

theorem aggB64 : AggT Tryd.prog 74 64 := ⟨fun _ => by kernel_rfl, by kernel_rfl⟩

set_option maxRecDepth 10000 in
set_option maxHeartbeats 1000000 in
theorem mix_any (g c : Nat) (ws : List UInt32) (bl : List UInt8) (w : World) (hT : TB w) (hg0 : g ≠ 0) (hw : ws.length = 8) (hb : bl.length = 64) (h : CB w g 104 (hcells ws bl c)) :
    Calls Tryd.prog 63 #[.pointer (some ⟨g, 0, none⟩)] w fun e w' => e = .returned (.tuple #[]) ∧ CB w' g 104 (hcells (compress ws bl) bl c) ∧ w.grownBy w' (some g) := by
  have HT := Lib.hid hT
  have HG0 := Lib.hid hg0
  have HWL := Lib.hid hw
  have HBL := Lib.hid hb
  have H := Lib.hid h
  have c0 := h.at_ (hcells_wget hw 0 (by omega))
  have c1 := h.at_ (hcells_wget hw 1 (by omega))
  have c2 := h.at_ (hcells_wget hw 2 (by omega))
  have c3 := h.at_ (hcells_wget hw 3 (by omega))
  obtain ⟨S, hS⟩ : ∃ S, S = s8of ws := ⟨_, rfl⟩
  have ha : ws.getD 0 0 = S.a := by rw [hS]; rfl
  have hb' : ws.getD 1 0 = S.b := by rw [hS]; rfl
  have hc' : ws.getD 2 0 = S.c := by rw [hS]; rfl
  have hd : ws.getD 3 0 = S.d := by rw [hS]; rfl
  rw [ha] at c0
  rw [hb'] at c1
  rw [hc'] at c2
  rw [hd] at c3
  have HS := Lib.hid hS
  clear hT hg0 hw hb h ha hb' hc' hd hS
  go_enter Tryd.func63, Tryd.ntmps63
  go_wp2
  go_quiet (fail)
  have H2' : CB (w.drewN nq) g 104 (hcells ws bl c) := H.out
  have G2' : w.grownBy (w.drewN nq) (some g) := ⟨rfl, rfl, rfl, Nat.le_refl _, fun _ _ _ => rfl⟩
  clear c0 c1 c2 c3
  have H2 := Lib.hid H2'
  have G2 := Lib.hid G2'
  clear H2' G2'
  generalize w.drewN nq = w1 at *
  have c4 := H2.out.at_ (hcells_wget HWL.out 4 (by omega))
  have c5 := H2.out.at_ (hcells_wget HWL.out 5 (by omega))
  have c6 := H2.out.at_ (hcells_wget HWL.out 6 (by omega))
  have c7 := H2.out.at_ (hcells_wget HWL.out 7 (by omega))
  have ha : ws.getD 4 0 = S.e := by rw [HS.out]; rfl
  have hb' : ws.getD 5 0 = S.f := by rw [HS.out]; rfl
  have hc' : ws.getD 6 0 = S.g := by rw [HS.out]; rfl
  have hd : ws.getD 7 0 = S.h := by rw [HS.out]; rfl
  rw [ha] at c4
  rw [hb'] at c5
  rw [hc'] at c6
  rw [hd] at c7
  clear ha hb' hc' hd
  go_wp2
  go_quiet (fail)
  have H3' : CB (w1.drewN nq) g 104 (hcells ws bl c) := H2.out
  have G3' : w1.grownBy (w1.drewN nq) (some g) := ⟨rfl, rfl, rfl, Nat.le_refl _, fun _ _ _ => rfl⟩
  clear c4 c5 c6 c7
  have H3 := Lib.hid H3'
  have G3 := Lib.hid (grown_trans' G2.out G3')
  clear H3' G3'
  generalize w1.drewN nq = w2 at *
  go_wp2_with (first
    | refine wpList_loadC (p := bcells bl) aggB64 rfl (.tmp 58) rfl H3.out (hcells_block HWL.out HBL.out) (by rw [hcells_length HWL.out HBL.out]; omega) rfl ?_
    | (go_at_call 77; refine (schedule_any bl HBL.out _).mono ?_; rintro e w3 ⟨rfl, hg3⟩; have H4 := Lib.hid (H3.out.kept hg3); have G4 := Lib.hid (grown_trans' G3.out (grown_some hg3 g)); clear hg3))
  obtain ⟨X, hX⟩ : ∃ X, X = sched bl := ⟨_, rfl⟩
  rw [← hX]
  have HX := Lib.hid hX
  clear hX
  go_loopw [2, 3, 4, 5, 6, 7, 8, 9, 61] (fun va vb vc vd ve vf vg vh i wr => ∃ (k : Nat) (s : S8), i = .int .i64 k ∧ k ≤ 64 ∧ s = roundsTo ws X k ∧ va = .int .u32 (s.a.toNat : Int) ∧ vb = .int .u32 (s.b.toNat : Int) ∧ vc = .int .u32 (s.c.toNat : Int) ∧ vd = .int .u32 (s.d.toNat : Int) ∧
    ve = .int .u32 (s.e.toNat : Int) ∧ vf = .int .u32 (s.f.toNat : Int) ∧ vg = .int .u32 (s.g.toNat : Int) ∧ vh = .int .u32 (s.h.toNat : Int) ∧ CB wr g 104 (hcells ws bl c) ∧ w.grownBy wr (some g)) (fun _ _ _ _ _ _ _ _ i _ => 64 - (intOf i).toNat)
  case atStart => exact ⟨0, S, rfl, by omega, HS.out, rfl, rfl, rfl, rfl, rfl, rfl, rfl, rfl, H4.out, G4.out⟩
  case round =>
    obtain ⟨k, s, rfl, hk, hs, rfl, rfl, rfl, rfl, rfl, rfl, rfl, rfl, hC, hG⟩ := hrel
    by_cases hlt : k < 64
    · obtain ⟨x, hx⟩ : ∃ u, X[k]? = some u := ⟨_, List.getElem?_eq_getElem (by rw [HX.out, sched_length]; omega)⟩
      obtain ⟨K, hK⟩ : ∃ u, roundK[k]? = some u := ⟨_, List.getElem?_eq_getElem (by rw [roundK_length]; omega)⟩
      have hix := run_indexW Tryd.underlying106 sz32 Tryd.underlying101 (by rw [HX.out, sched_length]) hx
      have hT2 := HT.out.grown hG (fun e => HG0.out (by injection e))
      have ck := hT2 k K hK
      have hn : stepS s K x = roundsTo ws X (k + 1) := by rw [roundsTo, ← hs, getD_some hK, getD_some hx]
      have HN := Lib.hid hn
      have HC := Lib.hid hC
      have HG := Lib.hid hG
      have hki : (k : Int) < 64 := by omega
      have hd1 := fun W => mixLow_any s.e W
      have hd2 := fun W => choose_any s.e s.f s.g W
      have hd3 := fun W => mixHigh_any s.a W
      have hd4 := fun W => majority_any s.a s.b s.c W
      have a1 := add_u32w s.h (sLow s.e)
      have a2 := add_u32w (s.h + sLow s.e) (chs s.e s.f s.g)
      have a3 := add_u32w (s.h + sLow s.e + chs s.e s.f s.g) K
      have a4 := add_u32w (s.h + sLow s.e + chs s.e s.f s.g + K) x
      rw [show s.h + sLow s.e + chs s.e s.f s.g + K + x = lowOf s K x from rfl] at a4
      have a5 := add_u32w (sHigh s.a) (maj s.a s.b s.c)
      rw [show sHigh s.a + maj s.a s.b s.c = highOf s from rfl] at a5
      have a6 := add_u32w s.d (lowOf s K x)
      have a7 := add_u32w (lowOf s K x) (highOf s)
      have hst : stepS s K x = ⟨lowOf s K x + highOf s, s.a, s.b, s.c, s.d + lowOf s K x, s.e, s.f, s.g⟩ := rfl
      have HST := Lib.hid hst
      clear hn hC hG hT2 hx hK hs hst
      generalize lowOf s K x + highOf s = z7 at *
      generalize s.d + lowOf s K x = z6 at *
      generalize highOf s = z5 at *
      generalize lowOf s K x = z4 at *
      generalize s.h + sLow s.e + chs s.e s.f s.g + K = z3 at *
      generalize s.h + sLow s.e + chs s.e s.f s.g = z2 at *
      generalize s.h + sLow s.e = z1 at *
      generalize sLow s.e = y1 at *
      generalize chs s.e s.f s.g = y2 at *
      generalize sHigh s.a = y3 at *
      generalize maj s.a s.b s.c = y4 at *
      have HD1 := Lib.hid hd1
      have HD2 := Lib.hid hd2
      have HD3 := Lib.hid hd3
      have HD4 := Lib.hid hd4
      clear hd1 hd2 hd3 hd4
      go_wp2
      go_quiet ((first | (go_at_call 78; with_reducible exact Calls.quiet_of_same ((HD1.out _).mono fun _ _ h => And.intro h.1 h.2.symm)) | (go_at_call 79; with_reducible exact Calls.quiet_of_same ((HD2.out _).mono fun _ _ h => And.intro h.1 h.2.symm))))
      have HCz := Lib.hid (show CB (wr.drewN nq) g 104 (hcells ws bl c) from HC.out)
      have HGz := Lib.hid (grown_trans' HG.out (show wr.grownBy (wr.drewN nq) (some g) from ⟨rfl, rfl, rfl, Nat.le_refl _, fun _ _ _ => rfl⟩))
      clear ck hix a1 a2 a3 a4
      generalize wr.drewN nq = wz at *
      go_wp2_with (first
        | (go_at_call 80; refine (HD3.out _).mono ?_; rintro e w5 ⟨rfl, rfl⟩)
        | (go_at_call 81; refine (HD4.out _).mono ?_; rintro e w5 ⟨rfl, rfl⟩))
      go_roundw
      case rel => exact ⟨k + 1, stepS s K x, by go_num, by omega, HN.out, by rw [HST.out], by rw [HST.out], by rw [HST.out], by rw [HST.out], by rw [HST.out], by rw [HST.out], by rw [HST.out], by rw [HST.out], HCz.out, HGz.out⟩
      case measure => simp [intOf]; omega
    · obtain rfl : k = 64 := by omega
      have HF := Lib.hid (show finOf ws bl = [s.a, s.b, s.c, s.d, s.e, s.f, s.g, s.h] by rw [finOf, ← HX.out, ← hs]; rfl)
      have HC := Lib.hid hC
      have HG := Lib.hid hG
      clear hC hG hs hk hlt
      rw [show ((64 : Nat) : Int) = 64 from rfl]
      obtain ⟨wo, rfl⟩ : ∃ wo : World, wo = wr := ⟨_, rfl⟩
      go_wp2
      rw [show (#[.int .u32 (s.a.toNat : Int), .int .u32 (s.b.toNat : Int), .int .u32 (s.c.toNat : Int), .int .u32 (s.d.toNat : Int), .int .u32 (s.e.toNat : Int), .int .u32 (s.f.toNat : Int), .int .u32 (s.g.toNat : Int), .int .u32 (s.h.toNat : Int)] : Array Value) = (wcells (finOf ws bl)).toArray by rw [HF.out]; rfl]
      have HFL := Lib.hid (show (finOf ws bl).length = 8 by rw [HF.out]; rfl)
      obtain ⟨F, hF⟩ : ∃ F, F = finOf ws bl := ⟨_, rfl⟩
      rw [← hF] at HFL ⊢
      have HFE := Lib.hid hF
      clear hF HF
      have hll : (compress ws bl).length = ws.length := by rw [compress_length, HWL.out]
      have HLL := Lib.hid hll
      clear hll
      go_loopw [109] (fun i wr => ∃ k : Nat, i = .int .i64 k ∧ k ≤ 8 ∧ CB wr g 104 (hcells (mix (compress ws bl) ws k) bl c) ∧ w.grownBy wr (some g)) (fun i _ => 8 - (intOf i).toNat)
      case atStart => exact ⟨0, rfl, by omega, by rw [mix_zero]; exact HC.out, HG.out⟩
      case round =>
        obtain ⟨k, rfl, hk, hC, hG⟩ := hrel
        have hml : (mix (compress ws bl) ws k).length = 8 := by rw [mix_length _ _ _ HLL.out, HWL.out]
        by_cases hlt : k < 8
        · obtain ⟨x, hx⟩ : ∃ u, F[k]? = some u := ⟨_, List.getElem?_eq_getElem (by rw [HFL.out]; omega)⟩
          obtain ⟨y, hy⟩ : ∃ u, ws[k]? = some u := ⟨_, List.getElem?_eq_getElem (by rw [HWL.out]; omega)⟩
          have hix := run_indexW Tryd.underlying102 sz32 Tryd.underlying101 HFL.out hx
          have ck := hC.at_ (hcells_word (c := c) (bl := bl) hml (show (mix (compress ws bl) ws k)[k]? = some y by rw [mix_get _ _ HLL.out _ _ (Nat.le_refl _), hy]))
          have hak : (compress ws bl)[k]? = some (y + x) := by
            rw [compress, List.getElem?_map, List.getElem?_range hlt, ← HFE.out, Option.map_some, getD_some hx, getD_some hy]
          have hs := mix_set (compress ws bl) ws HLL.out k _ hak
          have a1 := add_u32w y x
          have HS2 := Lib.hid hs
          have HC2 := Lib.hid hC
          have HG2 := Lib.hid hG
          have HML := Lib.hid hml
          have HLT := Lib.hid hlt
          have HCL := Lib.hid (show k < (hcells (mix (compress ws bl) ws k) bl c).length by rw [hcells_length hml HBL.out]; omega)
          have hki : (k : Int) < 8 := by omega
          clear hs hC hG hml hak hx hy
          generalize y + x = z at *
          go_wp2
          go_still_tail 11, (by kernel_rfl)
          repeat still_step
          change wpList _ _ _ _ _ wr.drew
          go_wp2_with (refine wpList_setC sz32 rfl (.tmp 123) (.tmp 120) rfl .u32 _ HC2.out.drew HCL.out rfl rfl ?_; intro w4 h4 g4; rw [hcells_setw HML.out k HLT.out, HS2.out] at h4; have HC4 := Lib.hid h4; have HG4 := Lib.hid (grown_trans' (grown_drew HG2.out) g4); clear h4 g4)
          go_roundw
          case rel => exact ⟨k + 1, by go_num, by have := HLT.out; omega, HC4.out, HG4.out⟩
          case measure => have := HLT.out; simp [intOf]; omega
        · obtain rfl : k = 8 := by omega
          rw [mix_all _ _ (by rw [HWL.out]; exact Nat.le_refl _) (by rw [compress_length]; exact Nat.le_refl _)] at hC
          have HC2 := Lib.hid hC
          have HG2 := Lib.hid hG
          clear hC hG hml
          go_wp2
          go_end0
          exact ⟨rfl, HC2.out, HG2.out⟩
end Go.Proofs.YtaanhancjmigdaaDoor
