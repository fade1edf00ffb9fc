/- Unlike blocks are unlike when they are encrypted: plain lemmas on lists of bytes. -/
import Derived.Test.YtbpkaaajcimcgabEqa
namespace Go.Proofs.Ytbpkaaajcimcgab
open Go.RowKit

theorem x_cancel (x y : UInt8) : x ^^^ (x ^^^ y) = y := by rw [← UInt8.xor_assoc, UInt8.xor_self, UInt8.zero_xor]
theorem x_inj {x y c : UInt8} (h : x ^^^ c = y ^^^ c) : x = y := by
  have := congrArg (c ^^^ ·) h
  simp only [UInt8.xor_comm _ c, x_cancel] at this
  exact this
theorem x_left (x y z : UInt8) : x ^^^ (y ^^^ z) = y ^^^ (x ^^^ z) := by rw [← UInt8.xor_assoc, UInt8.xor_comm x y, UInt8.xor_assoc]
theorem top_bit (x : UInt8) : x >>> 7 = 0 ∨ x >>> 7 = 1 := forall_u8 (p := fun x => x >>> 7 = 0 ∨ x >>> 7 = 1) (by decide +kernel) x
theorem dbl_xor (x y : UInt8) : dbl (x ^^^ y) = dbl x ^^^ dbl y := by
  unfold dbl
  rw [UInt8.shiftLeft_xor, UInt8.shiftRight_xor]
  have h : ((x >>> 7) ^^^ (y >>> 7)) * (27 : UInt8) = ((x >>> 7) * (27 : UInt8)) ^^^ ((y >>> 7) * (27 : UInt8)) := by
    rcases top_bit x with h1 | h1 <;> rcases top_bit y with h2 | h2 <;> rw [h1, h2] <;> decide
  rw [h]
  simp only [UInt8.xor_assoc]
  congr 1
  rw [x_left]
theorem mixd_twice (a b c d : UInt8) : mixd (mixd a b c d) (mixd b c d a) (mixd c d a b) (mixd d a b c) = a ^^^ dbl (dbl (a ^^^ c)) := by
  unfold mixd
  simp only [dbl_xor]
  generalize dbl (dbl a) = a2
  generalize dbl (dbl b) = b2
  generalize dbl (dbl c) = c2
  generalize dbl (dbl d) = d2
  generalize dbl a = a1
  generalize dbl b = b1
  generalize dbl c = c1
  generalize dbl d = d1
  simp only [UInt8.xor_comm, x_left, x_cancel, UInt8.xor_self, UInt8.xor_zero]
theorem mixd_inj {a b c d a' b' c' d' : UInt8} (h0 : mixd a b c d = mixd a' b' c' d') (h1 : mixd b c d a = mixd b' c' d' a') (h2 : mixd c d a b = mixd c' d' a' b') (h3 : mixd d a b c = mixd d' a' b' c') : a = a' := by
  have e1 : a ^^^ dbl (dbl (a ^^^ c)) = a' ^^^ dbl (dbl (a' ^^^ c')) := by rw [← mixd_twice a b c d, ← mixd_twice a' b' c' d', h0, h1, h2, h3]
  have e2 : c ^^^ dbl (dbl (c ^^^ a)) = c' ^^^ dbl (dbl (c' ^^^ a')) := by rw [← mixd_twice c d a b, ← mixd_twice c' d' a' b', h0, h1, h2, h3]
  have e3 : a ^^^ c = a' ^^^ c' := by
    have := congrArg (· ^^^ (c ^^^ dbl (dbl (c ^^^ a)))) e1
    rw [e2] at this
    rw [← e2] at this
    have l : ∀ x y : UInt8, (x ^^^ dbl (dbl (x ^^^ y))) ^^^ (y ^^^ dbl (dbl (y ^^^ x))) = x ^^^ y := by
      intro x y
      rw [UInt8.xor_comm y x]
      generalize dbl (dbl (x ^^^ y)) = z
      simp only [UInt8.xor_comm, x_left, UInt8.xor_self, UInt8.xor_zero]
    rw [l, e2, l] at this
    exact this
  rw [e3] at e1
  exact x_inj e1

theorem get_map16 (f : Nat → UInt8) (i : Nat) (h : i < 16) : ((List.range 16).map f)[i]? = some (f i) := by rw [List.getElem?_map, List.getElem?_range h]; rfl
theorem map16_eq {f g : Nat → UInt8} (h : (List.range 16).map f = (List.range 16).map g) (i : Nat) (hi : i < 16) : f i = g i := by
  have := congrArg (·[i]?) h
  simp only [get_map16 _ i hi] at this
  injection this
theorem ext16 {a b : List UInt8} (ha : a.length = 16) (hb : b.length = 16) (h : ∀ i, i < 16 → a.getD i 0 = b.getD i 0) : a = b := by
  apply List.ext_getElem (by omega)
  intro i h1 h2
  have := h i (by omega)
  simp only [List.getD, List.getElem?_eq_getElem h1, List.getElem?_eq_getElem h2, Option.getD_some] at this
  exact this
theorem addKeyOf_inj {K a b : List UInt8} {r : Nat} (ha : a.length = 16) (hb : b.length = 16) (h : addKeyOf K a r = addKeyOf K b r) : a = b :=
  ext16 ha hb fun i hi => x_inj (map16_eq h i hi)
theorem shift_back (j : Nat) (h : j < 16) : ∃ i, i < 16 ∧ (i + i % 4 * 4) % 16 = j :=
  (show ∀ j, j < 16 → ∃ i, i < 16 ∧ (i + i % 4 * 4) % 16 = j by decide) j h
theorem shiftOf_inj {a b : List UInt8} (ha : a.length = 16) (hb : b.length = 16) (h : shiftOf a = shiftOf b) : a = b :=
  ext16 ha hb fun j hj => by
    obtain ⟨i, hi, he⟩ := shift_back j hj
    have := map16_eq h i hi
    rw [he] at this
    exact this
theorem mixOf_inj {a b : List UInt8} (ha : a.length = 16) (hb : b.length = 16) (h : mixOf a = mixOf b) : a = b :=
  ext16 ha hb fun j hj => by
    obtain ⟨q, hq⟩ : ∃ q, q = j / 4 * 4 := ⟨_, rfl⟩
    have hq16 : q ≤ 12 ∧ q % 4 = 0 ∧ (j = q ∨ j = q + 1 ∨ j = q + 2 ∨ j = q + 3) := by omega
    obtain ⟨hq1, hq2, hj4⟩ := hq16
    have m : ∀ i r, i = q + r → r < 4 → mixd (a.getD (q + r % 4) 0) (a.getD (q + (r + 1) % 4) 0) (a.getD (q + (r + 2) % 4) 0) (a.getD (q + (r + 3) % 4) 0) = mixd (b.getD (q + r % 4) 0) (b.getD (q + (r + 1) % 4) 0) (b.getD (q + (r + 2) % 4) 0) (b.getD (q + (r + 3) % 4) 0) := by
      intro i r hi hr
      have := map16_eq h i (by omega)
      rw [show i / 4 * 4 = q by omega, show i % 4 = r % 4 by omega, show (i + 1) % 4 = (r + 1) % 4 by omega, show (i + 2) % 4 = (r + 2) % 4 by omega, show (i + 3) % 4 = (r + 3) % 4 by omega] at this
      exact this
    have m0 := m q 0 (by omega) (by omega)
    have m1 := m (q + 1) 1 (by omega) (by omega)
    have m2 := m (q + 2) 2 (by omega) (by omega)
    have m3 := m (q + 3) 3 (by omega) (by omega)
    simp only [Nat.reduceMod, Nat.reduceAdd] at m0 m1 m2 m3
    rcases hj4 with rfl | rfl | rfl | rfl
    · exact mixd_inj m0 m1 m2 m3
    · exact mixd_inj m1 m2 m3 m0
    · exact mixd_inj m2 m3 m0 m1
    · exact mixd_inj m3 m0 m1 m2
theorem subOf_inj {K a b : List UInt8} (hK : ∀ u v : UInt8, K.getD u.toNat 0 = K.getD v.toNat 0 → u = v) (h : subOf K a = subOf K b) : a = b :=
  (List.map_inj_right (fun u v e => hK u v e)).1 h

/-! The table of a cipher is the table of SubBytes, which has each byte once. -/
theorem expTo_low (key : List UInt8) (i : Nat) (hi : i < 256) : ∀ n, (expTo key n).1[i]? = subT[i]?
  | 0 => by
    rw [expTo, List.getElem?_append_left (by rw [List.length_append, subT_length]; omega), List.getElem?_append_left (by rw [subT_length]; exact hi)]
  | n + 1 => by
    rw [expTo, patch, List.append_assoc]
    by_cases hl : i < (expTo key n).1.length
    · rw [List.getElem?_append_left (by rw [List.length_take]; omega), List.getElem?_take_of_lt (by omega)]
      exact expTo_low key i hi n
    · have := expTo_low key i hi n
      rw [List.getElem?_eq_none (by omega), List.getElem?_eq_getElem (by rw [subT_length]; exact hi)] at this
      cases this
theorem keyed_getD (key : List UInt8) (u : UInt8) : (keyed key).getD u.toNat 0 = sTab.getD u.toNat 0 := by
  rw [← subT_eq]
  simp only [List.getD]
  rw [keyed, expTo_low key u.toNat u.toNat_lt 40]
def sInv : List UInt8 := [82, 9, 106, 213, 48, 54, 165, 56, 191, 64, 163, 158, 129, 243, 215, 251, 124, 227, 57, 130, 155, 47, 255, 135, 52, 142, 67, 68, 196, 222, 233, 203, 84, 123, 148, 50, 166, 194, 35, 61, 238, 76, 149, 11, 66, 250, 195, 78, 8, 46, 161, 102, 40, 217, 36, 178, 118, 91, 162, 73, 109, 139, 209, 37, 114, 248, 246, 100, 134, 104, 152, 22, 212, 164, 92, 204, 93, 101, 182, 146, 108, 112, 72, 80, 253, 237, 185, 218, 94, 21, 70, 87, 167, 141, 157, 132, 144, 216, 171, 0, 140, 188, 211, 10, 247, 228, 88, 5, 184, 179, 69, 6, 208, 44, 30, 143, 202, 63, 15, 2, 193, 175, 189, 3, 1, 19, 138, 107, 58, 145, 17, 65, 79, 103, 220, 234, 151, 242, 207, 206, 240, 180, 230, 115, 150, 172, 116, 34, 231, 173, 53, 133, 226, 249, 55, 232, 28, 117, 223, 110, 71, 241, 26, 113, 29, 41, 197, 137, 111, 183, 98, 14, 170, 24, 190, 27, 252, 86, 62, 75, 198, 210, 121, 32, 154, 219, 192, 254, 120, 205, 90, 244, 31, 221, 168, 51, 136, 7, 199, 49, 177, 18, 16, 89, 39, 128, 236, 95, 96, 81, 127, 169, 25, 181, 74, 13, 45, 229, 122, 159, 147, 201, 156, 239, 160, 224, 59, 77, 174, 42, 245, 176, 200, 235, 187, 60, 131, 83, 153, 97, 23, 43, 4, 126, 186, 119, 214, 38, 225, 105, 20, 99, 85, 33, 12, 125]
theorem sInv_ok (u : UInt8) : sInv.getD (sTab.getD u.toNat 0).toNat 0 = u := forall_u8 (p := fun u => sInv.getD (sTab.getD u.toNat 0).toNat 0 = u) (by decide +kernel) u
theorem keyed_once (key : List UInt8) (u v : UInt8) (h : (keyed key).getD u.toNat 0 = (keyed key).getD v.toNat 0) : u = v := by
  rw [keyed_getD, keyed_getD] at h
  rw [← sInv_ok u, ← sInv_ok v, h]

theorem round_inj {K a b : List UInt8} (hK : ∀ u v : UInt8, K.getD u.toNat 0 = K.getD v.toNat 0 → u = v) (ha : a.length = 16) (hb : b.length = 16) : ∀ n, roundsOf K a n = roundsOf K b n → a = b
  | 0, h => h
  | n + 1, h => by
    have la := roundsOf_length K a ha n
    have lb := roundsOf_length K b hb n
    have h1 := addKeyOf_inj (mixOf_length _) (mixOf_length _) h
    have h2 := mixOf_inj (shiftOf_length _) (shiftOf_length _) h1
    have h3 := shiftOf_inj (by rw [subOf_length]; exact la) (by rw [subOf_length]; exact lb) h2
    exact round_inj hK ha hb n (subOf_inj hK h3)
theorem block_eq {K a b : List UInt8} (hK : ∀ u v : UInt8, K.getD u.toNat 0 = K.getD v.toNat 0 → u = v) (ha : a.length = 16) (hb : b.length = 16) (h : blockOf K a = blockOf K b) : a = b := by
  have la := roundsOf_length K (addKeyOf K a 0) (addKeyOf_length _ _ _) 9
  have lb := roundsOf_length K (addKeyOf K b 0) (addKeyOf_length _ _ _) 9
  have h1 := addKeyOf_inj (shiftOf_length _) (shiftOf_length _) h
  have h2 := shiftOf_inj (by rw [subOf_length]; exact la) (by rw [subOf_length]; exact lb) h1
  exact addKeyOf_inj ha hb (round_inj hK (addKeyOf_length _ _ _) (addKeyOf_length _ _ _) 9 (subOf_inj hK h2))
theorem block_inj (key a b : List UInt8) (ha : a.length = 16) (hb : b.length = 16) : (blockOf (keyed key) a == blockOf (keyed key) b) = (a == b) := by
  by_cases h : a = b
  · rw [h]
    simp
  · have : blockOf (keyed key) a ≠ blockOf (keyed key) b := fun e => h (block_eq (keyed_once key) ha hb e)
    rw [beq_eq_false_iff_ne.2 this, beq_eq_false_iff_ne.2 h]
end Go.Proofs.Ytbpkaaajcimcgab
