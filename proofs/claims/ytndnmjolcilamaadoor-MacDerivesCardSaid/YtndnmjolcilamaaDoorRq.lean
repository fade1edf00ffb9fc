/- The document's sum, its small functions: rotr, constants, Pad. -/
import Derived.Test.YtndnmjolcilamaaDoorMs
namespace Go.Proofs.YtndnmjolcilamaaDoor
open Go.RowKit

theorem rotr_bits' (x : UInt32) (n a b : Nat) (h0 : 0 < n) (hn : n < 32) (ha : 2 ^ (32 - n) = a) (hb : 2 ^ n = b) :
    bits .or .u32 ((x.toNat : Int) / (b : Int)) ((x.toNat : Int) * (a : Int) % 4294967296) = ((rotr x n).toNat : Int) := by
  rw [shl_u32 x (32 - n) a (by omega) ha, shr_u32 x n b hn hb, or_u32, rotr, UInt32.or_comm]

theorem refRot2_any (x : UInt32) (w : World) : Calls Tryd.prog 62 #[.int .u32 (x.toNat : Int), .int .i64 2] w fun e w' => e = .returned (.int .u32 ((rotr x 2).toNat : Int)) ∧ w = w' := by
  have hb := x.toNat_lt
  have hx := rotr_bits' x 2 1073741824 4 (by decide) (by decide) (by decide) (by decide)
  simp only [Int.cast_ofNat_Int] at hx
  go_enter Tryd.func62, Tryd.ntmps62
  go_wp2
  go_ret
  exact ⟨rfl, rfl⟩
theorem refRot6_any (x : UInt32) (w : World) : Calls Tryd.prog 62 #[.int .u32 (x.toNat : Int), .int .i64 6] w fun e w' => e = .returned (.int .u32 ((rotr x 6).toNat : Int)) ∧ w = w' := by
  have hb := x.toNat_lt
  have hx := rotr_bits' x 6 67108864 64 (by decide) (by decide) (by decide) (by decide)
  simp only [Int.cast_ofNat_Int] at hx
  go_enter Tryd.func62, Tryd.ntmps62
  go_wp2
  go_ret
  exact ⟨rfl, rfl⟩
theorem refRot7_any (x : UInt32) (w : World) : Calls Tryd.prog 62 #[.int .u32 (x.toNat : Int), .int .i64 7] w fun e w' => e = .returned (.int .u32 ((rotr x 7).toNat : Int)) ∧ w = w' := by
  have hb := x.toNat_lt
  have hx := rotr_bits' x 7 33554432 128 (by decide) (by decide) (by decide) (by decide)
  simp only [Int.cast_ofNat_Int] at hx
  go_enter Tryd.func62, Tryd.ntmps62
  go_wp2
  go_ret
  exact ⟨rfl, rfl⟩
theorem refRot11_any (x : UInt32) (w : World) : Calls Tryd.prog 62 #[.int .u32 (x.toNat : Int), .int .i64 11] w fun e w' => e = .returned (.int .u32 ((rotr x 11).toNat : Int)) ∧ w = w' := by
  have hb := x.toNat_lt
  have hx := rotr_bits' x 11 2097152 2048 (by decide) (by decide) (by decide) (by decide)
  simp only [Int.cast_ofNat_Int] at hx
  go_enter Tryd.func62, Tryd.ntmps62
  go_wp2
  go_ret
  exact ⟨rfl, rfl⟩
theorem refRot13_any (x : UInt32) (w : World) : Calls Tryd.prog 62 #[.int .u32 (x.toNat : Int), .int .i64 13] w fun e w' => e = .returned (.int .u32 ((rotr x 13).toNat : Int)) ∧ w = w' := by
  have hb := x.toNat_lt
  have hx := rotr_bits' x 13 524288 8192 (by decide) (by decide) (by decide) (by decide)
  simp only [Int.cast_ofNat_Int] at hx
  go_enter Tryd.func62, Tryd.ntmps62
  go_wp2
  go_ret
  exact ⟨rfl, rfl⟩
theorem refRot17_any (x : UInt32) (w : World) : Calls Tryd.prog 62 #[.int .u32 (x.toNat : Int), .int .i64 17] w fun e w' => e = .returned (.int .u32 ((rotr x 17).toNat : Int)) ∧ w = w' := by
  have hb := x.toNat_lt
  have hx := rotr_bits' x 17 32768 131072 (by decide) (by decide) (by decide) (by decide)
  simp only [Int.cast_ofNat_Int] at hx
  go_enter Tryd.func62, Tryd.ntmps62
  go_wp2
  go_ret
  exact ⟨rfl, rfl⟩
theorem refRot18_any (x : UInt32) (w : World) : Calls Tryd.prog 62 #[.int .u32 (x.toNat : Int), .int .i64 18] w fun e w' => e = .returned (.int .u32 ((rotr x 18).toNat : Int)) ∧ w = w' := by
  have hb := x.toNat_lt
  have hx := rotr_bits' x 18 16384 262144 (by decide) (by decide) (by decide) (by decide)
  simp only [Int.cast_ofNat_Int] at hx
  go_enter Tryd.func62, Tryd.ntmps62
  go_wp2
  go_ret
  exact ⟨rfl, rfl⟩
theorem refRot19_any (x : UInt32) (w : World) : Calls Tryd.prog 62 #[.int .u32 (x.toNat : Int), .int .i64 19] w fun e w' => e = .returned (.int .u32 ((rotr x 19).toNat : Int)) ∧ w = w' := by
  have hb := x.toNat_lt
  have hx := rotr_bits' x 19 8192 524288 (by decide) (by decide) (by decide) (by decide)
  simp only [Int.cast_ofNat_Int] at hx
  go_enter Tryd.func62, Tryd.ntmps62
  go_wp2
  go_ret
  exact ⟨rfl, rfl⟩
theorem refRot22_any (x : UInt32) (w : World) : Calls Tryd.prog 62 #[.int .u32 (x.toNat : Int), .int .i64 22] w fun e w' => e = .returned (.int .u32 ((rotr x 22).toNat : Int)) ∧ w = w' := by
  have hb := x.toNat_lt
  have hx := rotr_bits' x 22 1024 4194304 (by decide) (by decide) (by decide) (by decide)
  simp only [Int.cast_ofNat_Int] at hx
  go_enter Tryd.func62, Tryd.ntmps62
  go_wp2
  go_ret
  exact ⟨rfl, rfl⟩
theorem refRot25_any (x : UInt32) (w : World) : Calls Tryd.prog 62 #[.int .u32 (x.toNat : Int), .int .i64 25] w fun e w' => e = .returned (.int .u32 ((rotr x 25).toNat : Int)) ∧ w = w' := by
  have hb := x.toNat_lt
  have hx := rotr_bits' x 25 128 33554432 (by decide) (by decide) (by decide) (by decide)
  simp only [Int.cast_ofNat_Int] at hx
  go_enter Tryd.func62, Tryd.ntmps62
  go_wp2
  go_ret
  exact ⟨rfl, rfl⟩

theorem over64 (p : List Value) (hp : p.length = 64) : over (wcells (wz 64)) 0 p = p := by
  rw [over, List.take_zero, List.nil_append, List.drop_eq_nil_of_le (by rw [wcells_length, wz_length]; omega), List.append_nil]
set_option maxRecDepth 20000 in
set_option maxHeartbeats 1000000 in
theorem refConsts_any (w : World) : Calls Tryd.prog 60 #[] w fun e w' => e = .returned (.agg (wcells roundK).toArray) ∧ w.grownBy w' none := by
  go_enter Tryd.func60, Tryd.ntmps60
  go_wp2_with (first
    | refine wpList_allocC zero64 rfl rfl ?_
    | (refine wpList_storeC (off := 0) (p := wcells roundK) sz64 rfl (.tmp 0) (.tmp 1) rfl (.agg (wcells roundK).toArray) rfl (wcells_one _) (CB.new w 91 (wcells (wz 64))) rfl (by rw [wcells_length, wz_length]; omega) (by first | rfl | go_simp) (by kernel_rfl) ?_; intro w5 h5 g5))
  rw [over64 _ rfl] at h5
  exact bodyPost_ret (results_C Tryd.underlying91 sz64 rfl _ h5 rfl rfl) rfl ⟨rfl, none_new (grown_alloc w _ none) g5 (Nat.le_refl _)⟩
end Go.Proofs.YtndnmjolcilamaaDoor
