/- Fields one behind the other: what Split answers of two texts together. Plain lemmas. -/
import Derived.Test.YtfpcabfpnekejaaDoorSameW
namespace Go.Proofs.YtfpcabfpnekejaaDoor

theorem splitF_fuel : ∀ (f g : Nat) (l : List UInt8) (acc : List Fd), l.length ≤ f → l.length ≤ g → splitF f l acc = splitF g l acc
  | 0, 0, _, _, _, _ => rfl
  | 0, g + 1, l, acc, h, _ => by
    obtain rfl : l = [] := List.eq_nil_of_length_eq_zero (by omega)
    simp [splitF]
  | f + 1, 0, l, acc, _, h => by
    obtain rfl : l = [] := List.eq_nil_of_length_eq_zero (by omega)
    simp [splitF]
  | f + 1, g + 1, l, acc, hf, hg => by
    unfold splitF
    by_cases h0 : l = []
    · rw [if_pos h0, if_pos h0]
    · rw [if_neg h0, if_neg h0]
      by_cases he : (firstOf l).2.2 = 0
      · rw [if_pos he, if_pos he]
        have := firstOf_shorter l he
        exact splitF_fuel f g _ _ (by omega) (by omega)
      · rw [if_neg he, if_neg he]

theorem splitF_acc : ∀ (f : Nat) (l : List UInt8) (acc : List Fd), l.length ≤ f → splitF f l acc = if (splitF f l []).2 = 0 then (acc ++ (splitF f l []).1, 0) else ([], (splitF f l []).2)
  | 0, l, acc, _ => by simp [splitF]
  | f + 1, l, acc, hf => by
    unfold splitF
    by_cases h0 : l = []
    · simp [h0]
    · rw [if_neg h0, if_neg h0]
      by_cases he : (firstOf l).2.2 = 0
      · rw [if_pos he, if_pos he]
        have := firstOf_shorter l he
        rw [splitF_acc f _ (acc ++ [(firstOf l).1]) (by omega), splitF_acc f _ ([] ++ [(firstOf l).1]) (by omega)]
        by_cases h2 : (splitF f (firstOf l).2.1 []).2 = 0 <;> simp [h2]
      · rw [if_neg he, if_neg he]
        simp [he]

theorem getD_app (a b : List UInt8) (k : Nat) (h : k < a.length) : (a ++ b).getD k 0 = a.getD k 0 := by
  simp [List.getD, List.getElem?_append_left h]
theorem firstOf_app (a b : List UInt8) (h : a ≠ []) (he : (firstOf a).2.2 = 0) : firstOf (a ++ b) = ((firstOf a).1, (firstOf a).2.1 ++ b, 0) := by
  have hp : 0 < a.length := List.length_pos_iff.2 h
  have hd : (a ++ b).headD 0 = a.headD 0 := by cases a with | nil => simp at h | cons x a => rfl
  have hl : (a ++ b).length = a.length + b.length := List.length_append
  by_cases h1 : a.headD 0 = 0
  · rw [firstOf, if_pos h1] at he; simp at he
  by_cases h2 : a.length < 3
  · rw [firstOf, if_neg h1, if_pos h2] at he; simp at he
  by_cases h3 : a.length - 3 < (a.getD 1 0).toNat * 256 + (a.getD 2 0).toNat
  · rw [firstOf, if_neg h1, if_neg h2, if_pos h3] at he; simp at he
  have ea : firstOf a = ((((a.headD 0).toNat : Int), (a.drop 3).take ((a.getD 1 0).toNat * 256 + (a.getD 2 0).toNat)), a.drop (3 + ((a.getD 1 0).toNat * 256 + (a.getD 2 0).toNat)), 0) := by
    rw [firstOf, if_neg h1, if_neg h2, if_neg h3]
  rw [ea]
  unfold firstOf
  rw [getD_app a b 1 (by omega), getD_app a b 2 (by omega), if_neg (by rw [hd]; exact h1), if_neg (by omega), if_neg (by omega), hd]
  generalize (a.getD 1 0).toNat * 256 + (a.getD 2 0).toNat = N at *
  rw [List.drop_append_of_le_length (by omega), List.take_append_of_le_length (by simp; omega), List.drop_append_of_le_length (by omega)]
theorem firstOf_app21 (a b : List UInt8) (h : a ≠ []) (he : (firstOf a).2.2 = 21) : (firstOf (a ++ b)).2.2 = 21 := by
  have hd : (a ++ b).headD 0 = a.headD 0 := by cases a with | nil => simp at h | cons x a => rfl
  by_cases h1 : a.headD 0 = 0
  · rw [firstOf, if_pos (by rw [hd]; exact h1)]
  · exfalso
    unfold firstOf at he
    rw [if_neg h1] at he
    split at he
    · simp at he
    · split at he <;> simp at he

theorem splitF_app : ∀ (f : Nat) (a b : List UInt8) (acc : List Fd), a.length ≤ f → (splitF f a acc).2 = 0 → splitF (f + b.length) (a ++ b) acc = splitF b.length b (splitF f a acc).1
  | 0, a, b, acc, h, _ => by
    obtain rfl : a = [] := List.eq_nil_of_length_eq_zero (by omega)
    simp [splitF]
  | f + 1, a, b, acc, h, he => by
    by_cases h0 : a = []
    · subst h0
      simp only [List.nil_append]
      rw [splitF_fuel (f + 1 + b.length) b.length b acc (by omega) (by omega)]
      simp [splitF]
    · unfold splitF at he
      rw [if_neg h0] at he
      by_cases h1 : (firstOf a).2.2 = 0
      · rw [if_pos h1] at he
        have hsh := firstOf_shorter a h1
        have ih := splitF_app f (firstOf a).2.1 b (acc ++ [(firstOf a).1]) (by omega) he
        have e1 : splitF (f + 1) a acc = splitF f (firstOf a).2.1 (acc ++ [(firstOf a).1]) := by rw [splitF, if_neg h0, if_pos h1]
        rw [e1, ← ih, show f + 1 + b.length = (f + b.length) + 1 by omega, splitF, if_neg (by simp [h0]), firstOf_app a b h0 h1, if_pos rfl]
      · rw [if_neg h1] at he
        exact absurd he h1
theorem splitF_app21 : ∀ (f : Nat) (a b : List UInt8) (acc : List Fd), a.length ≤ f → (splitF f a acc).2 = 21 → (splitF (f + b.length) (a ++ b) acc).2 = 21
  | 0, a, b, acc, _, he => by simp [splitF] at he
  | f + 1, a, b, acc, h, he => by
    by_cases h0 : a = []
    · subst h0; simp [splitF] at he
    · unfold splitF at he
      rw [if_neg h0] at he
      rw [show f + 1 + b.length = (f + b.length) + 1 by omega, splitF, if_neg (by simp [h0])]
      by_cases h1 : (firstOf a).2.2 = 0
      · rw [if_pos h1] at he
        have hsh := firstOf_shorter a h1
        rw [firstOf_app a b h0 h1, if_pos rfl]
        exact splitF_app21 f _ b _ (by omega) he
      · rw [if_neg h1] at he
        have := firstOf_app21 a b h0 he
        rw [if_neg (by rw [this]; decide)]
        exact this
theorem splitF_err : ∀ (f : Nat) (l : List UInt8) (acc : List Fd), (splitF f l acc).2 = 0 ∨ ((splitF f l acc).1 = [] ∧ ((splitF f l acc).2 = 20 ∨ (splitF f l acc).2 = 21))
  | 0, l, acc => .inl rfl
  | f + 1, l, acc => by
    unfold splitF
    by_cases h0 : l = []
    · rw [if_pos h0]; exact .inl rfl
    · rw [if_neg h0]
      by_cases h1 : (firstOf l).2.2 = 0
      · rw [if_pos h1]; exact splitF_err f _ _
      · rw [if_neg h1]
        right
        refine ⟨rfl, ?_⟩
        rcases firstOf_err l with h | h | h
        · exact absurd h h1
        · exact .inl h
        · exact .inr h
theorem splitF_len : ∀ (f : Nat) (l : List UInt8) (acc : List Fd), (splitF f l acc).1.length ≤ acc.length + f
  | 0, l, acc => by simp [splitF]
  | f + 1, l, acc => by
    unfold splitF
    split
    · simp
    · split
      · have := splitF_len f (firstOf l).2.1 (acc ++ [(firstOf l).1])
        simp at this ⊢
        omega
      · simp
theorem splitOf_len (l : List UInt8) : (splitOf l).1.length ≤ l.length := by
  have := splitF_len l.length l []
  simpa [splitOf] using this
theorem splitOf_err (l : List UInt8) : (splitOf l).2 = 0 ∨ (splitOf l = ([], 20)) ∨ (splitOf l = ([], 21)) := by
  rcases splitF_err l.length l [] with h | ⟨h1, h | h⟩
  · exact .inl h
  · exact .inr (.inl (Prod.ext h1 h))
  · exact .inr (.inr (Prod.ext h1 h))
theorem splitOf_app (a b : List UInt8) (ha : (splitOf a).2 = 0) : splitOf (a ++ b) = if (splitOf b).2 = 0 then ((splitOf a).1 ++ (splitOf b).1, 0) else ([], (splitOf b).2) := by
  have h := splitF_app a.length a b [] (Nat.le_refl _) ha
  rw [← List.length_append] at h
  rw [splitOf, h, splitF_acc b.length b _ (Nat.le_refl _)]
  rfl
theorem splitOf_app21 (a b : List UInt8) (ha : splitOf a = ([], 21)) : splitOf (a ++ b) = ([], 21) := by
  have h := splitF_app21 a.length a b [] (Nat.le_refl _) (by show (splitOf a).2 = 21; rw [ha])
  rw [← List.length_append] at h
  have h' : (splitOf (a ++ b)).2 = 21 := h
  rcases splitOf_err (a ++ b) with k | k | k
  · omega
  · rw [k] at h'; simp at h'
  · exact k
end Go.Proofs.YtfpcabfpnekejaaDoor
namespace Go.Proofs.YtfpcabfpnekejaaDoor
open Go.RowKit

end Go.Proofs.YtfpcabfpnekejaaDoor
