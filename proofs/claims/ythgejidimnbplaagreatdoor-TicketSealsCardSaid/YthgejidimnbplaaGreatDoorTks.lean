/- Fields one behind the other: what Split answers of two texts together. Plain lemmas. -/
import Derived.Test.YthgejidimnbplaaGreatDoorSameW
namespace Go.Proofs.YthgejidimnbplaaGreatDoor

theorem splitF_fuel : ∀ (f g : Nat) (l : List UInt8) (acc : List Fd), l.length ≤ f → l.length ≤ g → splitF f l acc = splitF g l acc
  | 0, 0, _, _, _, _ => rfl
  | 0, g + 1, l, acc, h, _ => by
    obtain rfl : l = [] := List.eq_nil_of_length_eq_zero (by omega)
    simp [splitF]
  | f + 1, 0, l, acc, _, h => by
    obtain rfl : l = [] := List.eq_nil_of_length_eq_zero (by omega)
    simp [splitF]
  | f + 1, g + 1, l, acc, hf, hg => by
    unfold splitF
    by_cases h0 : l = []
    · rw [if_pos h0, if_pos h0]
    · rw [if_neg h0, if_neg h0]
      by_cases he : (firstOf l).2.2 = 0
      · rw [if_pos he, if_pos he]
        have := firstOf_shorter l he
        exact splitF_fuel f g _ _ (by omega) (by omega)
      · rw [if_neg he, if_neg he]

theorem splitF_acc : ∀ (f : Nat) (l : List UInt8) (acc : List Fd), l.length ≤ f → splitF f l acc = if (splitF f l []).2 = 0 then (acc ++ (splitF f l []).1, 0) else ([], (splitF f l []).2)
  | 0, l, acc, _ => by simp [splitF]
  | f + 1, l, acc, hf => by
    unfold splitF
    by_cases h0 : l = []
    · simp [h0]
    · rw [if_neg h0, if_neg h0]
      by_cases he : (firstOf l).2.2 = 0
      · rw [if_pos he, if_pos he]
        have := firstOf_shorter l he
        rw [splitF_acc f _ (acc ++ [(firstOf l).1]) (by omega), splitF_acc f _ ([] ++ [(firstOf l).1]) (by omega)]
        by_cases h2 : (splitF f (firstOf l).2.1 []).2 = 0 <;> simp [h2]
      · rw [if_neg he, if_neg he]
        simp [he]

theorem getD_app (a b : List UInt8) (k : Nat) (h : k < a.length) : (a ++ b).getD k 0 = a.getD k 0 := by
  simp [List.getD, List.getElem?_append_left h]
theorem firstOf_app (a b : List UInt8) (h : a ≠ []) (he : (firstOf a).2.2 = 0) : firstOf (a ++ b) = ((firstOf a).1, (firstOf a).2.1 ++ b, 0) := by
  have hp : 0 < a.length := List.length_pos_iff.2 h
  have hd : (a ++ b).headD 0 = a.headD 0 := by cases a with | nil => simp at h | cons x a => rfl
  have hl : (a ++ b).length = a.length + b.length := List.length_append
  by_cases h1 : a.headD 0 = 0
  · rw [firstOf, if_pos h1] at he; simp at he
  by_cases h2 : a.length < 3
  · rw [firstOf, if_neg h1, if_pos h2] at he; simp at he
  by_cases h3 : a.length - 3 < (a.getD 1 0).toNat * 256 + (a.getD 2 0).toNat
  · rw [firstOf, if_neg h1, if_neg h2, if_pos h3] at he; simp at he
  have ea : firstOf a = ((((a.headD 0).toNat : Int), (a.drop 3).take ((a.getD 1 0).toNat * 256 + (a.getD 2 0).toNat)), a.drop (3 + ((a.getD 1 0).toNat * 256 + (a.getD 2 0).toNat)), 0) := by
    rw [firstOf, if_neg h1, if_neg h2, if_neg h3]
  rw [ea]
  unfold firstOf
  rw [getD_app a b 1 (by omega), getD_app a b 2 (by omega), if_neg (by rw [hd]; exact h1), if_neg (by omega), if_neg (by omega), hd]
  generalize (a.getD 1 0).toNat * 256 + (a.getD 2 0).toNat = N at *
  rw [List.drop_append_of_le_length (by omega), List.take_append_of_le_length (by simp; omega), List.drop_append_of_le_length (by omega)]
theorem firstOf_app21 (a b : List UInt8) (h : a ≠ []) (he : (firstOf a).2.2 = 21) : (firstOf (a ++ b)).2.2 = 21 := by
  have hd : (a ++ b).headD 0 = a.headD 0 := by cases a with | nil => simp at h | cons x a => rfl
  by_cases h1 : a.headD 0 = 0
  · rw [firstOf, if_pos (by rw [hd]; exact h1)]
  · exfalso
    unfold firstOf at he
    rw [if_neg h1] at he
    split at he
    · simp at he
    · split at he <;> simp at he

theorem splitF_app : ∀ (f : Nat) (a b : List UInt8) (acc : List Fd), a.length ≤ f → (splitF f a acc).2 = 0 → splitF (f + b.length) (a ++ b) acc = splitF b.length b (splitF f a acc).1
  | 0, a, b, acc, h, _ => by
    obtain rfl : a = [] := List.eq_nil_of_length_eq_zero (by omega)
    simp [splitF]
  | f + 1, a, b, acc, h, he => by
    by_cases h0 : a = []
    · subst h0
      simp only [List.nil_append]
      rw [splitF_fuel (f + 1 + b.length) b.length b acc (by omega) (by omega)]
      simp [splitF]
    · unfold splitF at he
      rw [if_neg h0] at he
      by_cases h1 : (firstOf a).2.2 = 0
      · rw [if_pos h1] at he
        have hsh := firstOf_shorter a h1
        have ih := splitF_app f (firstOf a).2.1 b (acc ++ [(firstOf a).1]) (by omega) he
        have e1 : splitF (f + 1) a acc = splitF f (firstOf a).2.1 (acc ++ [(firstOf a).1]) := by rw [splitF, if_neg h0, if_pos h1]
        rw [e1, ← ih, show f + 1 + b.length = (f + b.length) + 1 by omega, splitF, if_neg (by simp [h0]), firstOf_app a b h0 h1, if_pos rfl]
      · rw [if_neg h1] at he
        exact absurd he h1
theorem splitF_app21 : ∀ (f : Nat) (a b : List UInt8) (acc : List Fd), a.length ≤ f → (splitF f a acc).2 = 21 → (splitF (f + b.length) (a ++ b) acc).2 = 21
  | 0, a, b, acc, _, he => by simp [splitF] at he
  | f + 1, a, b, acc, h, he => by
    by_cases h0 : a = []
    · subst h0; simp [splitF] at he
    · unfold splitF at he
      rw [if_neg h0] at he
      rw [show f + 1 + b.length = (f + b.length) + 1 by omega, splitF, if_neg (by simp [h0])]
      by_cases h1 : (firstOf a).2.2 = 0
      · rw [if_pos h1] at he
        have hsh := firstOf_shorter a h1
        rw [firstOf_app a b h0 h1, if_pos rfl]
        exact splitF_app21 f _ b _ (by omega) he
      · rw [if_neg h1] at he
        have := firstOf_app21 a b h0 he
        rw [if_neg (by rw [this]; decide)]
        exact this
theorem splitF_err : ∀ (f : Nat) (l : List UInt8) (acc : List Fd), (splitF f l acc).2 = 0 ∨ ((splitF f l acc).1 = [] ∧ ((splitF f l acc).2 = 20 ∨ (splitF f l acc).2 = 21))
  | 0, l, acc => .inl rfl
  | f + 1, l, acc => by
    unfold splitF
    by_cases h0 : l = []
    · rw [if_pos h0]; exact .inl rfl
    · rw [if_neg h0]
      by_cases h1 : (firstOf l).2.2 = 0
      · rw [if_pos h1]; exact splitF_err f _ _
      · rw [if_neg h1]
        right
        refine ⟨rfl, ?_⟩
        rcases firstOf_err l with h | h | h
        · exact absurd h h1
        · exact .inl h
        · exact .inr h
theorem splitF_len : ∀ (f : Nat) (l : List UInt8) (acc : List Fd), (splitF f l acc).1.length ≤ acc.length + f
  | 0, l, acc => by simp [splitF]
  | f + 1, l, acc => by
    unfold splitF
    split
    · simp
    · split
      · have := splitF_len f (firstOf l).2.1 (acc ++ [(firstOf l).1])
        simp at this ⊢
        omega
      · simp
theorem splitOf_len (l : List UInt8) : (splitOf l).1.length ≤ l.length := by
  have := splitF_len l.length l []
  simpa [splitOf] using this
theorem splitOf_err (l : List UInt8) : (splitOf l).2 = 0 ∨ (splitOf l = ([], 20)) ∨ (splitOf l = ([], 21)) := by
  rcases splitF_err l.length l [] with h | ⟨h1, h | h⟩
  · exact .inl h
  · exact .inr (.inl (Prod.ext h1 h))
  · exact .inr (.inr (Prod.ext h1 h))
theorem splitOf_app (a b : List UInt8) (ha : (splitOf a).2 = 0) : splitOf (a ++ b) = if (splitOf b).2 = 0 then ((splitOf a).1 ++ (splitOf b).1, 0) else ([], (splitOf b).2) := by
  have h := splitF_app a.length a b [] (Nat.le_refl _) ha
  rw [← List.length_append] at h
  rw [splitOf, h, splitF_acc b.length b _ (Nat.le_refl _)]
  rfl
theorem splitOf_app21 (a b : List UInt8) (ha : splitOf a = ([], 21)) : splitOf (a ++ b) = ([], 21) := by
  have h := splitF_app21 a.length a b [] (Nat.le_refl _) (by show (splitOf a).2 = 21; rw [ha])
  rw [← List.length_append] at h
  have h' : (splitOf (a ++ b)).2 = 21 := h
  rcases splitOf_err (a ++ b) with k | k | k
  · omega
  · rw [k] at h'; simp at h'
  · exact k
end Go.Proofs.YthgejidimnbplaaGreatDoor
namespace Go.Proofs.YthgejidimnbplaaGreatDoor
open Go.RowKit

end Go.Proofs.YthgejidimnbplaaGreatDoor
namespace Go.Proofs.YthgejidimnbplaaGreatDoor
open Go.RowKit

end Go.Proofs.YthgejidimnbplaaGreatDoor
namespace Go.Proofs.YthgejidimnbplaaGreatDoor
open Go.RowKit

theorem fieldB_firstOf (l : List UInt8) (h : l ≠ []) (he : (firstOf l).2.2 = 0) : chk (firstOf l).1 = 0 ∧ fieldB (firstOf l).1 ++ (firstOf l).2.1 = l := by
  by_cases h1 : l.headD 0 = 0
  · rw [firstOf, if_pos h1] at he; simp at he
  by_cases h2 : l.length < 3
  · rw [firstOf, if_neg h1, if_pos h2] at he; simp at he
  by_cases h3 : l.length - 3 < (l.getD 1 0).toNat * 256 + (l.getD 2 0).toNat
  · rw [firstOf, if_neg h1, if_neg h2, if_pos h3] at he; simp at he
  have ea : firstOf l = ((((l.headD 0).toNat : Int), (l.drop 3).take ((l.getD 1 0).toNat * 256 + (l.getD 2 0).toNat)), l.drop (3 + ((l.getD 1 0).toNat * 256 + (l.getD 2 0).toNat)), 0) := by
    rw [firstOf, if_neg h1, if_neg h2, if_neg h3]
  rw [ea]
  match l, h2 with
  | [], h2 => simp at h2
  | [_], h2 => simp at h2
  | [_, _], h2 => simp at h2
  | x0 :: x1 :: x2 :: r, _ =>
    have hx0 := x0.toNat_lt
    have hx1 := x1.toNat_lt
    have hx2 := x2.toNat_lt
    have hz : x0.toNat ≠ 0 := fun hz => h1 (UInt8.toNat_inj.1 (by simpa using hz))
    simp only [List.headD_cons, List.getD_cons_succ, List.getD_cons_zero, List.drop_succ_cons, List.drop_zero, List.length_cons] at h3 ⊢
    have hlen : (r.take (x1.toNat * 256 + x2.toNat)).length = x1.toNat * 256 + x2.toNat := by rw [List.length_take]; omega
    constructor
    · unfold chk
      rw [if_neg (by simp only; omega), if_neg (by simp only [hlen]; omega)]
    · have e1 : UInt8.ofNat ((x1.toNat * 256 + x2.toNat) / 256) = x1 := UInt8.toNat_inj.1 (by simp; omega)
      have e2 : UInt8.ofNat (x1.toNat * 256 + x2.toNat) = x2 := UInt8.toNat_inj.1 (by simp)
      have e0 : UInt8.ofNat ((x0.toNat : Int).toNat) = x0 := UInt8.toNat_inj.1 (by simp)
      unfold fieldB
      simp only [hlen, e0, e1, e2]
      rw [show 3 + (x1.toNat * 256 + x2.toNat) = (x1.toNat * 256 + x2.toNat) + 1 + 1 + 1 by omega]
      simp only [List.drop_succ_cons, List.cons_append, List.nil_append, List.take_append_drop]
theorem joinOf_splitF : ∀ (f : Nat) (l : List UInt8) (acc : List UInt8), l.length ≤ f → (splitF f l []).2 = 0 → joinOf (splitF f l []).1 acc = (acc ++ l, 0)
  | 0, l, acc, h, _ => by
    obtain rfl : l = [] := List.eq_nil_of_length_eq_zero (by omega)
    simp [splitF, joinOf]
  | f + 1, l, acc, h, he => by
    unfold splitF at he ⊢
    by_cases h0 : l = []
    · subst h0; simp [joinOf]
    · rw [if_neg h0] at he ⊢
      by_cases h1 : (firstOf l).2.2 = 0
      · rw [if_pos h1] at he ⊢
        have hsh := firstOf_shorter l h1
        obtain ⟨k1, k2⟩ := fieldB_firstOf l h0 h1
        rw [splitF_acc f _ _ (by omega)] at he ⊢
        by_cases h2 : (splitF f (firstOf l).2.1 []).2 = 0
        · rw [if_pos h2]
          simp only [List.nil_append, List.cons_append, joinOf, k1, if_true]
          rw [joinOf_splitF f _ _ (by omega) h2, List.append_assoc, k2]
        · rw [if_neg h2] at he; exact absurd he h2
      · rw [if_neg h1] at he; exact absurd he h1
theorem joinOf_splitOf (l : List UInt8) (h : (splitOf l).2 = 0) : joinOf (splitOf l).1 [] = (l, 0) := by
  have := joinOf_splitF l.length l [] (Nat.le_refl _) h
  simpa [splitOf] using this
theorem tot_splitF : ∀ (f : Nat) (l : List UInt8) (acc : List Fd), tot (splitF f l acc).1 ≤ tot acc + l.length
  | 0, l, acc => by simp [splitF]
  | f + 1, l, acc => by
    unfold splitF
    by_cases h0 : l = []
    · rw [if_pos h0]; simp
    · rw [if_neg h0]
      by_cases h1 : (firstOf l).2.2 = 0
      · rw [if_pos h1]
        have ih := tot_splitF f (firstOf l).2.1 (acc ++ [(firstOf l).1])
        have k2 := congrArg List.length (fieldB_firstOf l h0 h1).2
        rw [List.length_append, fieldB_length] at k2
        have ht : tot (acc ++ [(firstOf l).1]) = tot acc + ((firstOf l).1.2.length + 3) := by simp [tot]
        omega
      · rw [if_neg h1]; simp [tot]
theorem tot_splitOf (l : List UInt8) : tot (splitOf l).1 ≤ l.length := by
  have := tot_splitF l.length l []
  simpa [splitOf, tot] using this
theorem byte_splitF : ∀ (f : Nat) (l : List UInt8) (acc : List Fd), (∀ x ∈ acc, 0 ≤ x.1 ∧ x.1 < 256) → ∀ x ∈ (splitF f l acc).1, 0 ≤ x.1 ∧ x.1 < 256
  | 0, l, acc, h => by simpa [splitF] using h
  | f + 1, l, acc, h => by
    unfold splitF
    split
    · exact h
    · split
      · refine byte_splitF f _ _ fun x hx => ?_
        rcases List.mem_append.1 hx with hx | hx
        · exact h x hx
        · simp at hx
          subst hx
          exact firstOf_byte l
      · intro x hx; cases hx
theorem len_of_tot : ∀ (fs : List Fd) (f : Fd), f ∈ fs → f.2.length ≤ tot fs
  | [], f, h => by cases h
  | g :: fs, f, h => by
    have ht : tot (g :: fs) = g.2.length + 3 + tot fs := by simp [tot]
    rcases List.mem_cons.1 h with rfl | h
    · omega
    · have := len_of_tot fs f h; omega


theorem chk_of {f : Fd} (h : chk f = 0) : 1 ≤ f.1 ∧ f.1 ≤ 255 ∧ f.2.length ≤ 65535 := by
  unfold chk at h
  split at h
  · exact absurd h (by decide)
  · split at h
    · exact absurd h (by decide)
    · omega
theorem firstOf_fieldB (f : Fd) (r : List UInt8) (hc : chk f = 0) : firstOf (fieldB f ++ r) = (f, r, 0) := by
  obtain ⟨t, v⟩ := f
  obtain ⟨h1, h2, h3⟩ := chk_of hc
  simp only at h1 h2 h3
  have hne : UInt8.ofNat t.toNat ≠ 0 := by
    intro he
    have := congrArg UInt8.toNat he
    simp at this
    omega
  have e0 : fieldB (t, v) ++ r = UInt8.ofNat t.toNat :: UInt8.ofNat (v.length / 256) :: UInt8.ofNat v.length :: (v ++ r) := by simp [fieldB]
  rw [e0]
  have eN : (UInt8.ofNat (v.length / 256)).toNat * 256 + (UInt8.ofNat v.length).toNat = v.length := by simp; omega
  have et : (((UInt8.ofNat t.toNat).toNat : Nat) : Int) = t := (u8_of (by omega)).symm
  unfold firstOf
  simp only [List.headD_cons, List.getD_cons_succ, List.getD_cons_zero, List.drop_succ_cons, List.drop_zero, eN, et]
  rw [if_neg (by simpa using hne), if_neg (by simp), if_neg (by simp)]
  rw [show 3 + v.length = v.length + 1 + 1 + 1 by omega]
  simp only [List.drop_succ_cons]
  simp
theorem joinOf_flat : ∀ (fs : List Fd) (acc : List UInt8), (joinOf fs acc).2 = 0 → (joinOf fs acc).1 = acc ++ fs.flatMap fieldB ∧ ∀ f ∈ fs, chk f = 0
  | [], acc, _ => by simp [joinOf]
  | f :: fs, acc, h => by
    by_cases hc : chk f = 0
    · rw [joinOf, if_pos hc] at h ⊢
      obtain ⟨k1, k2⟩ := joinOf_flat fs _ h
      refine ⟨by rw [k1]; simp, fun x hx => ?_⟩
      rcases List.mem_cons.1 hx with rfl | hx
      · exact hc
      · exact k2 x hx
    · rw [joinOf, if_neg hc] at h; exact absurd h hc
theorem splitF_flat : ∀ (fs : List Fd) (f : Nat) (acc : List Fd), (∀ x ∈ fs, chk x = 0) → (fs.flatMap fieldB).length ≤ f → splitF f (fs.flatMap fieldB) acc = (acc ++ fs, 0)
  | [], f, acc, _, _ => by cases f <;> simp [splitF]
  | x :: fs, 0, acc, _, h => by
    have := fieldB_length x
    simp at h
    have h2 := h.1
    rw [h2] at this
    simp at this
  | x :: fs, f + 1, acc, hc, h => by
    have hx := hc x (List.mem_cons_self ..)
    have hlen := fieldB_length x
    simp only [List.flatMap_cons, List.length_append] at h ⊢
    have hne : fieldB x ++ fs.flatMap fieldB ≠ [] := by
      intro he
      have := congrArg List.length he
      simp at this
      rw [this.1] at hlen
      simp at hlen
    rw [splitF, if_neg hne, firstOf_fieldB x _ hx, if_pos rfl, splitF_flat fs f _ (fun y hy => hc y (List.mem_cons_of_mem _ hy)) (by omega)]
    simp
theorem splitOf_joinOf (fs : List Fd) (h : (joinOf fs []).2 = 0) : splitOf (joinOf fs []).1 = (fs, 0) := by
  obtain ⟨h1, h2⟩ := joinOf_flat fs [] h
  rw [h1, List.nil_append, splitOf, splitF_flat fs _ [] h2 (Nat.le_refl _)]
  rfl
theorem joinOf_len (fs : List Fd) : (joinOf fs []).1.length ≤ tot fs := by
  have : ∀ (fs : List Fd) (acc : List UInt8), (joinOf fs acc).1.length ≤ acc.length + tot fs := by
    intro fs
    induction fs with
    | nil => intro acc; simp [joinOf]
    | cons f fs ih =>
      intro acc
      unfold joinOf
      have ht : tot (f :: fs) = f.2.length + 3 + tot fs := by simp [tot]
      split
      · have := ih (acc ++ fieldB f)
        rw [List.length_append, fieldB_length] at this
        omega
      · simp
  simpa using this fs []

end Go.Proofs.YthgejidimnbplaaGreatDoor
