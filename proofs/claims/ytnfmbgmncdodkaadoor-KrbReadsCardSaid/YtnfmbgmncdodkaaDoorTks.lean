/- Split and join, each of what the other gives. Plain lemmas. -/
import Derived.Test.YtnfmbgmncdodkaaDoorPrt
import Derived.Test.YtnfmbgmncdodkaaDoorRSpW
namespace Go.Proofs.YtnfmbgmncdodkaaDoor
open Go.RowKit

theorem fieldB_firstOf (l : List UInt8) (h : l ≠ []) (he : (firstOf l).2.2 = 0) : chk (firstOf l).1 = 0 ∧ fieldB (firstOf l).1 ++ (firstOf l).2.1 = l := by
  by_cases h1 : l.headD 0 = 0
  · rw [firstOf, if_pos h1] at he; simp at he
  by_cases h2 : l.length < 3
  · rw [firstOf, if_neg h1, if_pos h2] at he; simp at he
  by_cases h3 : l.length - 3 < (l.getD 1 0).toNat * 256 + (l.getD 2 0).toNat
  · rw [firstOf, if_neg h1, if_neg h2, if_pos h3] at he; simp at he
  have ea : firstOf l = ((((l.headD 0).toNat : Int), (l.drop 3).take ((l.getD 1 0).toNat * 256 + (l.getD 2 0).toNat)), l.drop (3 + ((l.getD 1 0).toNat * 256 + (l.getD 2 0).toNat)), 0) := by
    rw [firstOf, if_neg h1, if_neg h2, if_neg h3]
  rw [ea]
  match l, h2 with
  | [], h2 => simp at h2
  | [_], h2 => simp at h2
  | [_, _], h2 => simp at h2
  | x0 :: x1 :: x2 :: r, _ =>
    have hx0 := x0.toNat_lt
    have hx1 := x1.toNat_lt
    have hx2 := x2.toNat_lt
    have hz : x0.toNat ≠ 0 := fun hz => h1 (UInt8.toNat_inj.1 (by simpa using hz))
    simp only [List.headD_cons, List.getD_cons_succ, List.getD_cons_zero, List.drop_succ_cons, List.drop_zero, List.length_cons] at h3 ⊢
    have hlen : (r.take (x1.toNat * 256 + x2.toNat)).length = x1.toNat * 256 + x2.toNat := by rw [List.length_take]; omega
    constructor
    · unfold chk
      rw [if_neg (by simp only; omega), if_neg (by simp only [hlen]; omega)]
    · have e1 : UInt8.ofNat ((x1.toNat * 256 + x2.toNat) / 256) = x1 := UInt8.toNat_inj.1 (by simp; omega)
      have e2 : UInt8.ofNat (x1.toNat * 256 + x2.toNat) = x2 := UInt8.toNat_inj.1 (by simp)
      have e0 : UInt8.ofNat ((x0.toNat : Int).toNat) = x0 := UInt8.toNat_inj.1 (by simp)
      unfold fieldB
      simp only [hlen, e0, e1, e2]
      rw [show 3 + (x1.toNat * 256 + x2.toNat) = (x1.toNat * 256 + x2.toNat) + 1 + 1 + 1 by omega]
      simp only [List.drop_succ_cons, List.cons_append, List.nil_append, List.take_append_drop]
theorem joinOf_splitF : ∀ (f : Nat) (l : List UInt8) (acc : List UInt8), l.length ≤ f → (splitF f l []).2 = 0 → joinOf (splitF f l []).1 acc = (acc ++ l, 0)
  | 0, l, acc, h, _ => by
    obtain rfl : l = [] := List.eq_nil_of_length_eq_zero (by omega)
    simp [splitF, joinOf]
  | f + 1, l, acc, h, he => by
    unfold splitF at he ⊢
    by_cases h0 : l = []
    · subst h0; simp [joinOf]
    · rw [if_neg h0] at he ⊢
      by_cases h1 : (firstOf l).2.2 = 0
      · rw [if_pos h1] at he ⊢
        have hsh := firstOf_shorter l h1
        obtain ⟨k1, k2⟩ := fieldB_firstOf l h0 h1
        rw [splitF_acc f _ _ (by omega)] at he ⊢
        by_cases h2 : (splitF f (firstOf l).2.1 []).2 = 0
        · rw [if_pos h2]
          simp only [List.nil_append, List.cons_append, joinOf, k1, if_true]
          rw [joinOf_splitF f _ _ (by omega) h2, List.append_assoc, k2]
        · rw [if_neg h2] at he; exact absurd he h2
      · rw [if_neg h1] at he; exact absurd he h1
theorem joinOf_splitOf (l : List UInt8) (h : (splitOf l).2 = 0) : joinOf (splitOf l).1 [] = (l, 0) := by
  have := joinOf_splitF l.length l [] (Nat.le_refl _) h
  simpa [splitOf] using this
theorem tot_splitF : ∀ (f : Nat) (l : List UInt8) (acc : List Fd), tot (splitF f l acc).1 ≤ tot acc + l.length
  | 0, l, acc => by simp [splitF]
  | f + 1, l, acc => by
    unfold splitF
    by_cases h0 : l = []
    · rw [if_pos h0]; simp
    · rw [if_neg h0]
      by_cases h1 : (firstOf l).2.2 = 0
      · rw [if_pos h1]
        have ih := tot_splitF f (firstOf l).2.1 (acc ++ [(firstOf l).1])
        have k2 := congrArg List.length (fieldB_firstOf l h0 h1).2
        rw [List.length_append, fieldB_length] at k2
        have ht : tot (acc ++ [(firstOf l).1]) = tot acc + ((firstOf l).1.2.length + 3) := by simp [tot]
        omega
      · rw [if_neg h1]; simp [tot]
theorem tot_splitOf (l : List UInt8) : tot (splitOf l).1 ≤ l.length := by
  have := tot_splitF l.length l []
  simpa [splitOf, tot] using this
theorem byte_splitF : ∀ (f : Nat) (l : List UInt8) (acc : List Fd), (∀ x ∈ acc, 0 ≤ x.1 ∧ x.1 < 256) → ∀ x ∈ (splitF f l acc).1, 0 ≤ x.1 ∧ x.1 < 256
  | 0, l, acc, h => by simpa [splitF] using h
  | f + 1, l, acc, h => by
    unfold splitF
    split
    · exact h
    · split
      · refine byte_splitF f _ _ fun x hx => ?_
        rcases List.mem_append.1 hx with hx | hx
        · exact h x hx
        · simp at hx
          subst hx
          exact firstOf_byte l
      · intro x hx; cases hx
theorem len_of_tot : ∀ (fs : List Fd) (f : Fd), f ∈ fs → f.2.length ≤ tot fs
  | [], f, h => by cases h
  | g :: fs, f, h => by
    have ht : tot (g :: fs) = g.2.length + 3 + tot fs := by simp [tot]
    rcases List.mem_cons.1 h with rfl | h
    · omega
    · have := len_of_tot fs f h; omega


theorem chk_of {f : Fd} (h : chk f = 0) : 1 ≤ f.1 ∧ f.1 ≤ 255 ∧ f.2.length ≤ 65535 := by
  unfold chk at h
  split at h
  · exact absurd h (by decide)
  · split at h
    · exact absurd h (by decide)
    · omega
theorem firstOf_fieldB (f : Fd) (r : List UInt8) (hc : chk f = 0) : firstOf (fieldB f ++ r) = (f, r, 0) := by
  obtain ⟨t, v⟩ := f
  obtain ⟨h1, h2, h3⟩ := chk_of hc
  simp only at h1 h2 h3
  have hne : UInt8.ofNat t.toNat ≠ 0 := by
    intro he
    have := congrArg UInt8.toNat he
    simp at this
    omega
  have e0 : fieldB (t, v) ++ r = UInt8.ofNat t.toNat :: UInt8.ofNat (v.length / 256) :: UInt8.ofNat v.length :: (v ++ r) := by simp [fieldB]
  rw [e0]
  have eN : (UInt8.ofNat (v.length / 256)).toNat * 256 + (UInt8.ofNat v.length).toNat = v.length := by simp; omega
  have et : (((UInt8.ofNat t.toNat).toNat : Nat) : Int) = t := (u8_of (by omega)).symm
  unfold firstOf
  simp only [List.headD_cons, List.getD_cons_succ, List.getD_cons_zero, List.drop_succ_cons, List.drop_zero, eN, et]
  rw [if_neg (by simpa using hne), if_neg (by simp), if_neg (by simp)]
  rw [show 3 + v.length = v.length + 1 + 1 + 1 by omega]
  simp only [List.drop_succ_cons]
  simp
theorem joinOf_flat : ∀ (fs : List Fd) (acc : List UInt8), (joinOf fs acc).2 = 0 → (joinOf fs acc).1 = acc ++ fs.flatMap fieldB ∧ ∀ f ∈ fs, chk f = 0
  | [], acc, _ => by simp [joinOf]
  | f :: fs, acc, h => by
    by_cases hc : chk f = 0
    · rw [joinOf, if_pos hc] at h ⊢
      obtain ⟨k1, k2⟩ := joinOf_flat fs _ h
      refine ⟨by rw [k1]; simp, fun x hx => ?_⟩
      rcases List.mem_cons.1 hx with rfl | hx
      · exact hc
      · exact k2 x hx
    · rw [joinOf, if_neg hc] at h; exact absurd h hc
theorem splitF_flat : ∀ (fs : List Fd) (f : Nat) (acc : List Fd), (∀ x ∈ fs, chk x = 0) → (fs.flatMap fieldB).length ≤ f → splitF f (fs.flatMap fieldB) acc = (acc ++ fs, 0)
  | [], f, acc, _, _ => by cases f <;> simp [splitF]
  | x :: fs, 0, acc, _, h => by
    have := fieldB_length x
    simp at h
    have h2 := h.1
    rw [h2] at this
    simp at this
  | x :: fs, f + 1, acc, hc, h => by
    have hx := hc x (List.mem_cons_self ..)
    have hlen := fieldB_length x
    simp only [List.flatMap_cons, List.length_append] at h ⊢
    have hne : fieldB x ++ fs.flatMap fieldB ≠ [] := by
      intro he
      have := congrArg List.length he
      simp at this
      rw [this.1] at hlen
      simp at hlen
    rw [splitF, if_neg hne, firstOf_fieldB x _ hx, if_pos rfl, splitF_flat fs f _ (fun y hy => hc y (List.mem_cons_of_mem _ hy)) (by omega)]
    simp
theorem splitOf_joinOf (fs : List Fd) (h : (joinOf fs []).2 = 0) : splitOf (joinOf fs []).1 = (fs, 0) := by
  obtain ⟨h1, h2⟩ := joinOf_flat fs [] h
  rw [h1, List.nil_append, splitOf, splitF_flat fs _ [] h2 (Nat.le_refl _)]
  rfl
theorem joinOf_len (fs : List Fd) : (joinOf fs []).1.length ≤ tot fs := by
  have : ∀ (fs : List Fd) (acc : List UInt8), (joinOf fs acc).1.length ≤ acc.length + tot fs := by
    intro fs
    induction fs with
    | nil => intro acc; simp [joinOf]
    | cons f fs ih =>
      intro acc
      unfold joinOf
      have ht : tot (f :: fs) = f.2.length + 3 + tot fs := by simp [tot]
      split
      · have := ih (acc ++ fieldB f)
        rw [List.length_append, fieldB_length] at this
        omega
      · simp
  simpa using this fs []

end Go.Proofs.YtnfmbgmncdodkaaDoor
