/- A path's parent is on the way; a node put into a Tree. Plain lemmas. -/
import Derived.Test.YtmbmahpklkcioaaDoorTrp
namespace Go.Proofs.YtmbmahpklkcioaaDoor
open Go.RowKit Go.Maps Go.WideMaps

theorem last_split (c : UInt8) : ∀ l : List UInt8, c ∈ l → ∃ a b, l = a ++ c :: b ∧ c ∉ b
  | [], h => by cases h
  | x :: l, h => by
    by_cases hl : c ∈ l
    · obtain ⟨a, b, e, hb⟩ := last_split c l hl
      exact ⟨x :: a, b, by rw [e]; rfl, hb⟩
    · rcases List.mem_cons.1 h with rfl | h
      · exact ⟨[], l, rfl, hl⟩
      · exact absurd h hl
theorem dirs_at (l : List UInt8) (k : Nat) (h : l[k + 1]? = some 47) : l.take (k + 1) ∈ dirs l (k + 1) := by
  rw [dirs, if_pos h]
  exact List.mem_append_right _ (List.mem_singleton.2 rfl)
theorem path_head {p : List UInt8} (h : pathOk p = true) : ∃ t, p = 47 :: t := by
  unfold pathOk at h
  rw [Bool.or_eq_true] at h
  rcases h with h | h
  · exact ⟨[], by simpa using h⟩
  · rw [Bool.and_eq_true, Bool.and_eq_true] at h
    have h1 := h.1.1
    cases p with
    | nil => simp at h1
    | cons x t =>
      simp at h1
      exact ⟨t, by rw [h1]⟩
/-- A path but the top has a parent, which is on the way. -/
theorem parent_on {p : List UInt8} (h : pathOk p = true) (h1 : p ≠ [47]) : ∃ a b, p = a ++ 47 :: b ∧ (47 : UInt8) ∉ b ∧ p.take (max a.length 1) ∈ aheads p := by
  obtain ⟨t, ht⟩ := path_head h
  obtain ⟨a, b, hab, hb⟩ := last_split 47 p (by rw [ht]; exact List.mem_cons_self)
  refine ⟨a, b, hab, hb, ?_⟩
  unfold aheads
  rw [if_neg h1]
  have hlen : p.length = a.length + 1 + b.length := by rw [hab, List.length_append, List.length_cons]; omega
  cases a with
  | nil =>
    have : p.take (max ([] : List UInt8).length 1) = [47] := by rw [ht]; rfl
    rw [this]
    exact (dirs_le p (Nat.zero_le _)).subset (by simp [dirs])
  | cons x a =>
    have hk : p[a.length + 1]? = some 47 := by rw [hab, List.getElem?_append_right (by simp)]; simp
    rw [show max (x :: a).length 1 = a.length + 1 by simp]
    exact (dirs_le p (show a.length + 1 ≤ p.length - 1 by rw [hlen, List.length_cons]; omega)).subset (dirs_at p a.length hk)
theorem comeE_all {M : List (List UInt8 × Nd)} {who : ByteArray} : ∀ {ds : List (List UInt8)}, comeE M who ds = 0 → ∀ d ∈ ds, ∃ n, M.lookup d = some n ∧ n.dir = true
  | [], _, d, hd => by cases hd
  | x :: ds, h, d, hd => by
    rw [comeE] at h
    cases hl : M.lookup x with
    | none => rw [hl] at h; cases h
    | some n =>
      rw [hl] at h
      simp only at h
      by_cases h1 : n.dir = false
      · rw [if_pos h1] at h; cases h
      · rw [if_neg h1] at h
        by_cases h2 : mayOk who 1 n.owner n.mode = false
        · rw [if_pos h2] at h; cases h
        · rw [if_neg h2] at h
          rcases List.mem_cons.1 hd with rfl | hd
          · exact ⟨n, hl, by cases hn : n.dir <;> simp_all⟩
          · exact comeE_all h d hd
theorem lookup_app (M : List (List UInt8 × Nd)) (p q : List UInt8) (n : Nd) (h : M.lookup p = none) : (M ++ [(p, n)]).lookup q = if q = p then some n else M.lookup q := by
  induction M with
  | nil =>
    rw [List.nil_append, List.lookup_cons]
    by_cases e : q = p
    · rw [if_pos e, e]; simp
    · rw [if_neg e, beq_eq_false_iff_ne.2 e]
  | cons x M ih =>
    obtain ⟨y, m⟩ := x
    rw [List.lookup_cons] at h
    rw [List.cons_append, List.lookup_cons, List.lookup_cons]
    by_cases e1 : p = y
    · rw [e1] at h; simp at h
    · rw [beq_eq_false_iff_ne.2 e1] at h
      have ih := ih h
      by_cases e2 : q = y
      · rw [e2]
        simp only [beq_self_eq_true]
        rw [if_neg (fun e => e1 e.symm)]
      · rw [beq_eq_false_iff_ne.2 e2]
        exact ih
theorem without_out {M : List (List UInt8 × Nd)} {p : List UInt8} (h : M.lookup p = none) : withoutM M p = M := by
  unfold withoutM
  refine List.filter_eq_self.2 fun x hx => ?_
  have := lookup_out h
  simp only [decide_eq_true_eq]
  intro e
  exact this (mem_keysM.2 ⟨x.2, by rw [← e]; exact hx⟩)
theorem lookup_turn (M : List (List UInt8 × Nd)) (p q : List UInt8) (f : Nd → Nd) : (turn p f M).lookup q = if q = p then (M.lookup q).map f else M.lookup q := by
  induction M with
  | nil => simp [turn]
  | cons x M ih =>
    obtain ⟨y, m⟩ := x
    unfold turn at ih ⊢
    rw [List.map_cons]
    by_cases e1 : y = p
    · rw [if_pos e1, List.lookup_cons, List.lookup_cons, ih]
      by_cases e2 : q = y
      · rw [e2]; simp [e1]
      · rw [beq_eq_false_iff_ne.2 e2]
    · rw [if_neg e1, List.lookup_cons, List.lookup_cons, ih]
      by_cases e2 : q = y
      · rw [e2]; simp [e1]
      · rw [beq_eq_false_iff_ne.2 e2]
end Go.Proofs.YtmbmahpklkcioaaDoor
