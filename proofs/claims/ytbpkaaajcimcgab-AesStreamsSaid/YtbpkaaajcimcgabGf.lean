/- Products of bytes as the document's answer reckons them, and its table: plain mathematics. -/
import Derived.Test.YtbpkaaajcimcgabVal
namespace Go.Proofs.Ytbpkaaajcimcgab
open Go.RowKit

/-- x, y and out behind k rounds of times. -/
def itN (a b : Nat) : Nat → Nat × Nat × Nat
  | 0 => (a, b, 0)
  | k + 1 => (if 255 < (itN a b k).1 * 2 then (itN a b k).1 * 2 ^^^ 283 else (itN a b k).1 * 2, (itN a b k).2.1 / 2, if (itN a b k).2.1 % 2 = 1 then (itN a b k).2.2 ^^^ (itN a b k).1 else (itN a b k).2.2)
/-- The same, from the other end: made for the kernel. -/
def mul8 : Nat → Nat → Nat → Nat → Nat
  | 0, _, _, o => o
  | f + 1, x, y, o => mul8 f (if 255 < x * 2 then x * 2 ^^^ 283 else x * 2) (y / 2) (if y % 2 = 1 then o ^^^ x else o)
theorem mul8_it (a b : Nat) : ∀ f k, mul8 f (itN a b k).1 (itN a b k).2.1 (itN a b k).2.2 = (itN a b (k + f)).2.2
  | 0, k => rfl
  | f + 1, k => by
    rw [mul8, show k + (f + 1) = (k + 1) + f by omega, ← mul8_it a b f (k + 1)]
    rfl
theorem xor_lt8 {x y : Nat} (hx : x < 256) (hy : y < 256) : x ^^^ y < 256 := Nat.xor_lt_two_pow (n := 8) hx hy
theorem red_lt {x : Nat} (hx : x < 256) : (if 255 < x * 2 then x * 2 ^^^ 283 else x * 2) < 256 :=
  (show ∀ x, x < 256 → (if 255 < x * 2 then x * 2 ^^^ 283 else x * 2) < 256 by decide +kernel) x hx
theorem itN_lt (a b : Nat) (ha : a < 256) (hb : b < 256) : ∀ k, (itN a b k).1 < 256 ∧ (itN a b k).2.1 < 256 ∧ (itN a b k).2.2 < 256
  | 0 => ⟨ha, hb, by simp [itN]⟩
  | k + 1 => by
    obtain ⟨h1, h2, h3⟩ := itN_lt a b ha hb k
    rw [itN]
    refine ⟨red_lt h1, ?_, ?_⟩
    · show (itN a b k).2.1 / 2 < 256
      omega
    · show (if (itN a b k).2.1 % 2 = 1 then (itN a b k).2.2 ^^^ (itN a b k).1 else (itN a b k).2.2) < 256
      split
      · exact xor_lt8 h3 h1
      · exact h3
/-- times. -/
def tms (a b : UInt8) : UInt8 := UInt8.ofNat (itN a.toNat b.toNat 8).2.2
theorem tms_mul (a b : UInt8) : tms a b = UInt8.ofNat (mul8 8 a.toNat b.toNat 0) := by rw [tms, ← mul8_it a.toNat b.toNat 8 0]; rfl

/-- The inverse, as it is looked for among the first k bytes. -/
def invTo (a : UInt8) : Nat → UInt8
  | 0 => 0
  | k + 1 => if tms a (UInt8.ofNat k) = 1 then UInt8.ofNat k else invTo a k
def fromOf (i k : Nat) : Nat := if 0 < k then (i + 3 + k) % 8 else i
def bitTo (inv : UInt8) (i : Nat) : Nat → Nat
  | 0 => 99 / 2 ^ i % 2
  | k + 1 => bitTo inv i k ^^^ (inv.toNat / 2 ^ fromOf i k % 2)
def outTo (inv : UInt8) : Nat → UInt8
  | 0 => 0
  | i + 1 => outTo inv i + UInt8.ofNat (bitTo inv i 5 * 2 ^ i)
def boxOf (a : UInt8) : UInt8 := outTo (invTo a 256) 8
def boxT : List UInt8 := (List.range 256).map fun a => boxOf (UInt8.ofNat a)

/-! Made for the kernel: the same on numbers. -/
def invK (a : Nat) : Nat → Nat
  | 0 => 0
  | k + 1 => if mul8 8 a k 0 = 1 then k else invK a k
theorem mul8_lt (a b : Nat) (ha : a < 256) (hb : b < 256) : mul8 8 a b 0 < 256 := by
  have := (itN_lt a b ha hb 8).2.2
  have h := mul8_it a b 8 0
  rw [Nat.zero_add] at h
  rw [← h] at this
  exact this
theorem invK_eq (a : Nat) (ha : a < 256) : ∀ k, k ≤ 256 → invTo (UInt8.ofNat a) k = UInt8.ofNat (invK a k)
  | 0, _ => rfl
  | k + 1, hk => by
    have ea : (UInt8.ofNat a).toNat = a := by rw [UInt8.toNat_ofNat']; omega
    have ek : (UInt8.ofNat k).toNat = k := by rw [UInt8.toNat_ofNat']; omega
    have hl := mul8_lt a k ha (by omega)
    have e : tms (UInt8.ofNat a) (UInt8.ofNat k) = 1 ↔ mul8 8 a k 0 = 1 := by
      rw [tms_mul, ea, ek]
      constructor
      · intro h
        have := congrArg UInt8.toNat h
        rw [UInt8.toNat_ofNat'] at this
        have h1 : (1 : UInt8).toNat = 1 := rfl
        omega
      · intro h
        rw [h]
        rfl
    rw [invTo, invK, invK_eq a ha k (by omega)]
    by_cases h : mul8 8 a k 0 = 1
    · rw [if_pos h, if_pos (e.2 h)]
    · rw [if_neg h, if_neg (fun x => h (e.1 x))]
end Go.Proofs.Ytbpkaaajcimcgab
