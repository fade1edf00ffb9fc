/- The walk of TlvCuts. -/
import Derived.Test.YtmkdcnhhcfblgaaSpW
namespace Go.Proofs.Ytmkdcnhhcfblgaa
open Go.RowKit

theorem and_low (k : Int) (j : Nat) (hj : j ≤ 62) : ∃ m : Nat, m < 2 ^ j ∧ bits .and .i64 k ((2 ^ j - 1 : Nat) : Int) = (m : Int) := by
  have hp : 2 ^ j ≤ 2 ^ 62 := Nat.pow_le_pow_right (by decide) hj
  have h2 : (2 : Nat) ^ 62 = 4611686018427387904 := by decide
  refine ⟨(BitVec.ofInt 64 k).toNat % 2 ^ j, Nat.mod_lt _ (Nat.two_pow_pos j), ?_⟩
  have hb : (BitVec.ofInt 64 (((2 ^ j - 1 : Nat) : Int))).toNat = 2 ^ j - 1 := by
    rw [BitVec.ofInt_natCast, BitVec.toNat_ofNat]
    exact Nat.mod_eq_of_lt (by omega)
  have hm := Nat.mod_lt (BitVec.ofInt 64 k).toNat (Nat.two_pow_pos j)
  show IntKind.i64.wrap (((BitVec.ofInt 64 k &&& BitVec.ofInt 64 ((2 ^ j - 1 : Nat) : Int)).toNat : Nat) : Int) = _
  rw [BitVec.toNat_and, hb, Nat.and_two_pow_sub_one_eq_mod, IntKind.wrap_i64]
  omega

theorem firstOf_cut (t : Int) (v : List UInt8) (n : Nat) (h1 : 1 ≤ t) (h2 : t ≤ 255) (hv : v.length ≤ 60000) (hn1 : 1 ≤ n) (hn2 : n < v.length + 3) :
    firstOf ((fieldB (t, v)).take n) = ((0, []), [], 20) := by
  obtain ⟨m, rfl⟩ : ∃ m, n = m + 1 := ⟨n - 1, by omega⟩
  have hne : UInt8.ofNat t.toNat ≠ 0 := by
    intro he
    have := congrArg UInt8.toNat he
    simp at this
    omega
  have c1 : ¬ ((fieldB (t, v)).take (m + 1)).headD 0 = 0 := by simpa [fieldB] using hne
  have hl : ((fieldB (t, v)).take (m + 1)).length = m + 1 := by rw [List.length_take, fieldB_length]; simp; omega
  unfold firstOf
  rw [if_neg c1]
  by_cases h3 : m < 2
  · rw [if_pos (by omega)]
  · obtain ⟨q, rfl⟩ : ∃ q, m = q + 2 := ⟨m - 2, by omega⟩
    rw [if_neg (by omega), if_pos]
    rw [hl]
    simp [fieldB]
    omega
theorem splitOf_cut (t : Int) (v : List UInt8) (n : Nat) (h1 : 1 ≤ t) (h2 : t ≤ 255) (hv : v.length ≤ 60000) (hn1 : 1 ≤ n) (hn2 : n < v.length + 3) :
    splitOf ((fieldB (t, v)).take n) = ([], 20) := by
  have hl : ((fieldB (t, v)).take n).length = n := by rw [List.length_take, fieldB_length]; simp; omega
  obtain ⟨m, rfl⟩ : ∃ m, n = m + 1 := ⟨n - 1, by omega⟩
  rw [splitOf, hl, splitF, if_neg (by intro h; rw [h] at hl; simp at hl), firstOf_cut t v (m + 1) h1 h2 hv hn1 hn2]
  rfl

set_option maxHeartbeats 1000000 in
theorem walk_TlvCuts (w : World) (t : Int) (w0 : (Lit.int .i64 t).wf = true) (A : Option Addr) (l : List UInt8) (cap : Nat) (h : RB w w.heap.size A l cap) (k : Int) (_w2 : (Lit.int .i64 k).wf = true) :
    Calls Try.prog 9 #[.int .i64 t, .slice A l.length cap, .int .i64 k] w fun e w' => e = .returned (.bool true) ∧ Below w.heap.size w w' := by
  obtain ⟨ht1, ht2⟩ := bounds_i64 w0
  have hl : l.length ≤ 9223372036854775807 := Nat.le_trans h.1 h.2.1
  clear w0
  have H := Lib.hid h
  clear h
  by_cases hout : t < 1 ∨ 255 < t ∨ 60000 < l.length
  · rcases hout with ho | ho | ho
    · go_enter Try.func9, Try.ntmps9
      go_wp2_with (go_at_call 10; refine (speaks_any _).mono ?_; rintro e w1 ⟨rfl, hb1⟩)
      go_ret
      exact ⟨rfl, hb1⟩
    · have ho' : ¬ t < 1 := by omega
      go_enter Try.func9, Try.ntmps9
      go_wp2_with (go_at_call 10; refine (speaks_any _).mono ?_; rintro e w1 ⟨rfl, hb1⟩)
      go_ret
      exact ⟨rfl, hb1⟩
    · by_cases h1 : t < 1
      · go_enter Try.func9, Try.ntmps9
        go_wp2_with (go_at_call 10; refine (speaks_any _).mono ?_; rintro e w1 ⟨rfl, hb1⟩)
        go_ret
        exact ⟨rfl, hb1⟩
      · by_cases h2 : 255 < t
        · go_enter Try.func9, Try.ntmps9
          go_wp2_with (go_at_call 10; refine (speaks_any _).mono ?_; rintro e w1 ⟨rfl, hb1⟩)
          go_ret
          exact ⟨rfl, hb1⟩
        · go_enter Try.func9, Try.ntmps9
          go_wp2_with (go_at_call 10; refine (speaks_any _).mono ?_; rintro e w1 ⟨rfl, hb1⟩)
          go_ret
          exact ⟨rfl, hb1⟩
  have h1 : ¬ t < 1 := by omega
  have h2 : ¬ 255 < t := by omega
  have h3 : ¬ (60000 : Int) < (l.length : Int) := by omega
  clear hout
  have hj : joinOf [(t, l)] [] = (fieldB (t, l), 0) := by
    have hc : chk (t, l) = 0 := by unfold chk; rw [if_neg (by simp; omega), if_neg (by simp; omega)]
    simp [joinOf, hc]
  go_enter Try.func9, Try.ntmps9
  go_wp2_with (go_at_call 10; refine (speaks_any _).mono ?_; rintro e w1 ⟨rfl, hb1⟩)
  have hsz1 := hb1.size
  have hrf := RF.new1 w1 _ 54 t A l cap l.length rfl (w1.heap.size + 1) (by omega) ((H.out.below hb1).more hsz1) rfl
  have hJ := fun W hh => join_at (some ⟨w1.heap.size, 0, none⟩) [(t, l)] 1 1 W rfl hh (by simp; omega) (by simp [tot]; omega)
  refine (hJ _ ?hrf).mono ?_
  case hrf => exact hrf.more (by simp)
  rw [hj]
  rintro e w3 ⟨v, rfl, hown, hb3⟩
  obtain ⟨V, c, rfl, hr, -⟩ := hown.shape
  have hbw3 : Below w.heap.size w w3 := (hb1.alloc hsz1 _).trans (hb3.mono (by simp; omega))
  have hfl : (fieldB (t, l)).length = l.length + 3 := fieldB_length _
  have HR := Lib.hid hr
  obtain ⟨m, hm, hmk⟩ := and_low k 16 (by decide)
  have hmk' : bits .and .i64 k 65535 = (m : Int) := hmk
  have hlc : (fieldB (t, l)).length ≤ c := hr.1
  clear hrf hJ hj hown hr hmk H
  rw [hfl] at *
  obtain ⟨q, hq0, hq⟩ : ∃ q : Nat, q < l.length + 2 ∧ (m : Int) % ((l.length : Int) + 3 - 1) = (q : Int) := by
    refine ⟨m % (l.length + 2), Nat.mod_lt _ (by omega), ?_⟩
    rw [show (l.length : Int) + 3 - 1 = ((l.length + 2 : Nat) : Int) by omega]
    exact (Int.natCast_emod _ _).symm
  have hqc : 1 + q ≤ c := by omega
  have hqi : (1 + (q : Int)) ≤ (c : Int) := by omega
  clear hm
  have hsp := splitOf_cut t l (1 + q) (by omega) (by omega) (by omega) (by omega) (by omega)
  have HS := Lib.hid (split_any V ((fieldB (t, l)).take (1 + q)) c (1 + q) w3 (by rw [List.length_take, fieldB_length]; simp; omega) (HR.out.head (1 + q)) (by omega))
  rw [hsp] at HS
  clear hsp
  go_wp2_with fail
  refine HS.out.mono ?_
  rintro e w4 ⟨v4, rfl, hown4, hb4⟩
  obtain ⟨V4, c4, rfl, -, -⟩ := hown4.shape
  clear hown4
  go_wp2
  go_ret
  exact ⟨rfl, hbw3.trans (hb4.mono hbw3.size)⟩
end Go.Proofs.Ytmkdcnhhcfblgaa
