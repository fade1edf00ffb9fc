/- What a memory of authenticators does, as lists and numbers; no program. -/
import Derived.Lib.Hide
namespace Go.Proofs.Ytgamlioahdbikaa

/-- An authenticator: client, time, nonce, subkey. -/
abbrev Au := List UInt8 × Int × Int × List UInt8
def far (a b : Int) : Bool := decide (b < a) && decide (10 < a - b)
theorem far_true {a b : Int} : far a b = true ↔ 10 < a - b := by
  unfold far
  rw [Bool.and_eq_true, decide_eq_true_iff, decide_eq_true_iff]
  omega
theorem far_false {a b : Int} : far a b = false ↔ a - b ≤ 10 := by
  rw [← Bool.not_eq_true, far_true]; omega
structure St where
  M : List Au
  cl : Bool
  beg : Int
def keepA (now : Int) (M : List Au) : List Au := M.filter fun a => !far now a.2.1
def seenOf (s : St) (a : Au) (now : Int) : St × Int :=
  if far a.2.1 now = true ∨ far now a.2.1 = true then (s, 65)
  else if s.cl = true ∧ far a.2.1 s.beg = false then (s, 68)
  else if a ∈ keepA now s.M then (⟨keepA now s.M, s.cl, s.beg⟩, 66)
  else if 16 ≤ (keepA now s.M).length then (⟨keepA now s.M, s.cl, s.beg⟩, 2)
  else (⟨keepA now s.M ++ [a], s.cl, s.beg⟩, 0)
def restartOf (s : St) (now : Int) : St := ⟨[], true, if s.cl = false ∨ s.beg < now then now else s.beg⟩

theorem keepA_sub {now : Int} {M : List Au} {x : Au} (h : x ∈ keepA now M) : x ∈ M := (List.mem_filter.1 h).1
theorem keepA_all {now : Int} {M : List Au} (h : ∀ x ∈ M, far now x.2.1 = false) : keepA now M = M := List.filter_eq_self.2 fun x hx => by rw [h x hx]; rfl
theorem keepA_none {now : Int} {M : List Au} (h : ∀ x ∈ M, far now x.2.1 = true) : keepA now M = [] := List.filter_eq_nil_iff.2 fun x hx => by rw [h x hx]; simp
theorem seen_sub {s : St} {a : Au} {now : Int} : ∀ x ∈ (seenOf s a now).1.M, x ∈ s.M ∨ x = a := by
  intro x hx
  unfold seenOf at hx
  split at hx
  · exact .inl hx
  · split at hx
    · exact .inl hx
    · split at hx
      · exact .inl (keepA_sub hx)
      · split at hx
        · exact .inl (keepA_sub hx)
        · rcases List.mem_append.1 hx with h | h
          · exact .inl (keepA_sub h)
          · exact .inr (List.mem_singleton.1 h)
theorem seen_cl (s : St) (a : Au) (now : Int) : (seenOf s a now).1.cl = s.cl := by
  unfold seenOf
  repeat' split
  all_goals rfl
theorem seen_beg (s : St) (a : Au) (now : Int) : (seenOf s a now).1.beg = s.beg := by
  unfold seenOf
  repeat' split
  all_goals rfl
theorem seen_most {s : St} {a : Au} {now : Int} (h : s.M.length ≤ 16) : (seenOf s a now).1.M.length ≤ 16 := by
  have hk : (keepA now s.M).length ≤ s.M.length := List.length_filter_le _ _
  unfold seenOf
  split
  · exact h
  · split
    · exact h
    · split
      · show (keepA now s.M).length ≤ 16; omega
      · split
        · show (keepA now s.M).length ≤ 16; omega
        · show (keepA now s.M ++ [a]).length ≤ 16; rw [List.length_append, List.length_singleton]; omega
theorem seen_num {s : St} {a : Au} {now : Int} : 0 ≤ (seenOf s a now).2 ∧ (seenOf s a now).2 ≤ 68 := by
  unfold seenOf
  repeat' split
  all_goals simp

/-! Once many came. -/
def auF (l : List UInt8) (k : List UInt8) (now : Int) (i : Nat) : Au := (l, now + (i % 3 : Nat), (i : Int), k)
theorem auF_mem {l k : List UInt8} {now : Int} {n i : Nat} : auF l k now i ∈ (List.range n).map (auF l k now) ↔ i < n := by
  rw [List.mem_map]
  constructor
  · rintro ⟨j, hj, he⟩
    have : (j : Int) = i := congrArg (fun x : Au => x.2.2.1) he
    have := List.mem_range.1 hj
    omega
  · intro h
    exact ⟨i, List.mem_range.2 h, rfl⟩
theorem auF_keep {l k : List UInt8} {now d : Int} (hd0 : 0 ≤ d) (hd : d ≤ 7) (n : Nat) : keepA (now + d) ((List.range n).map (auF l k now)) = (List.range n).map (auF l k now) := by
  refine keepA_all fun x hx => ?_
  obtain ⟨j, _, rfl⟩ := List.mem_map.1 hx
  rw [far_false]
  show now + d - (now + (j % 3 : Nat)) ≤ 10
  omega
theorem auF_near {l k : List UInt8} {now d : Int} (hd0 : 0 ≤ d) (hd : d ≤ 7) (i : Nat) : ¬ (far (auF l k now i).2.1 (now + d) = true ∨ far (now + d) (auF l k now i).2.1 = true) := by
  rw [far_true, far_true]
  show ¬ (10 < now + (i % 3 : Nat) - (now + d) ∨ 10 < now + d - (now + (i % 3 : Nat)))
  omega
def stF (l k : List UInt8) (now : Int) (n : Nat) : St := ⟨(List.range n).map (auF l k now), false, 0⟩
theorem full_new (l k : List UInt8) (now : Int) (i : Nat) (h : i < 16) : seenOf (stF l k now i) (auF l k now i) now = (stF l k now (i + 1), 0) := by
  have hk := auF_keep (l := l) (k := k) (now := now) (d := 0) (by omega) (by omega) i
  have hn := auF_near (l := l) (k := k) (now := now) (d := 0) (by omega) (by omega) i
  rw [Int.add_zero] at hk hn
  unfold seenOf stF
  rw [if_neg hn, if_neg (by simp), hk, if_neg (by rw [auF_mem]; omega), if_neg (by simp; omega)]
  rw [List.range_succ, List.map_append]
  rfl
theorem full_more (l k : List UInt8) (now : Int) (i : Nat) (h : 16 ≤ i) : seenOf (stF l k now 16) (auF l k now i) now = (stF l k now 16, 2) := by
  have hk := auF_keep (l := l) (k := k) (now := now) (d := 0) (by omega) (by omega) 16
  have hn := auF_near (l := l) (k := k) (now := now) (d := 0) (by omega) (by omega) i
  rw [Int.add_zero] at hk hn
  unfold seenOf stF
  rw [if_neg hn, if_neg (by simp), hk, if_neg (by rw [auF_mem]; omega), if_pos (by simp)]
theorem full_again (l k : List UInt8) (now d : Int) (hd0 : 0 ≤ d) (hd : d ≤ 7) (i : Nat) (h : i < 16) : seenOf (stF l k now 16) (auF l k now i) (now + d) = (stF l k now 16, 66) := by
  have hk := auF_keep (l := l) (k := k) (now := now) hd0 hd 16
  have hn := auF_near (l := l) (k := k) (now := now) hd0 hd i
  unfold seenOf stF
  rw [if_neg hn, if_neg (by simp), hk, if_pos (by rw [auF_mem]; omega)]

/-! Once all are old. -/
def AllBy (s : St) (B : Int) : Prop := ∀ x ∈ s.M, x.2.1 ≤ B
theorem AllBy.seen {s : St} {B : Int} (h : AllBy s B) {a : Au} (ha : a.2.1 ≤ B) (now : Int) : AllBy (seenOf s a now).1 B := by
  intro x hx
  rcases seen_sub x hx with hx | rfl
  · exact h x hx
  · exact ha
theorem later_new {s : St} {now : Int} (h : AllBy s (now + 10)) (hc : s.cl = false) (a : Au) (ha : a.2.1 = now + 21) : seenOf s a (now + 21) = (⟨[a], false, s.beg⟩, 0) := by
  have hk : keepA (now + 21) s.M = [] := keepA_none fun x hx => by rw [far_true]; have := h x hx; omega
  unfold seenOf
  rw [if_neg (by rw [far_true, far_true, ha]; omega), if_neg (by rw [hc]; simp), hk, if_neg (by simp), if_neg (by simp), hc]
  rfl

/-! Nothing is taken twice. -/
def InvO (s : St) (T : List Au) (now : Int) : Prop := ∀ t ∈ T, (t ∈ s.M ∧ t.2.1 ≤ now + 10) ∨ far now t.2.1 = true ∨ (s.cl = true ∧ far t.2.1 s.beg = false)
theorem InvO.now {s : St} {T : List Au} {now now' : Int} (h : InvO s T now) (hn : now ≤ now') : InvO s T now' := by
  intro t ht
  rcases h t ht with ⟨h1, h2⟩ | h1 | h1
  · exact .inl ⟨h1, by omega⟩
  · exact .inr (.inl (by rw [far_true] at h1 ⊢; omega))
  · exact .inr (.inr h1)
theorem InvO.restart {s : St} {T : List Au} {now : Int} (h : InvO s T now) : InvO (restartOf s now) T now := by
  intro t ht
  refine .inr ?_
  unfold restartOf
  rcases h t ht with ⟨h1, h2⟩ | h1 | ⟨h1, h2⟩
  · refine .inr ⟨rfl, ?_⟩
    rw [far_false]
    show t.2.1 - (if s.cl = false ∨ s.beg < now then now else s.beg) ≤ 10
    split
    · omega
    · rename_i hh
      have : now ≤ s.beg := by
        by_cases h3 : s.beg < now
        · exact absurd (Or.inr h3) hh
        · omega
      omega
  · exact .inl h1
  · refine .inr ⟨rfl, ?_⟩
    rw [far_false] at h2 ⊢
    show t.2.1 - (if s.cl = false ∨ s.beg < now then now else s.beg) ≤ 10
    split
    · rename_i hh
      rcases hh with h3 | h3
      · rw [h1] at h3; cases h3
      · omega
    · exact h2
theorem InvO.seen {s : St} {T : List Au} {now : Int} (h : InvO s T now) (a : Au) : InvO (seenOf s a now).1 T now := by
  intro t ht
  rcases h t ht with ⟨h1, h2⟩ | h1 | h1
  · cases hf : far now t.2.1 with
    | true => exact .inr (.inl rfl)
    | false =>
      have hk : t ∈ keepA now s.M := List.mem_filter.2 ⟨h1, by rw [hf]; rfl⟩
      refine .inl ⟨?_, h2⟩
      unfold seenOf
      split
      · exact h1
      · split
        · exact h1
        · split
          · exact hk
          · split
            · exact hk
            · exact List.mem_append_left _ hk
  · exact .inr (.inl h1)
  · exact .inr (.inr (by rw [seen_cl, seen_beg]; exact h1))
theorem InvO.taken {s : St} {T : List Au} {now : Int} (h : InvO s T now) (a : Au) (ho : (seenOf s a now).2 = 0) : a ∉ T ∧ InvO (seenOf s a now).1 (T ++ [a]) now := by
  have hc : (¬ (far a.2.1 now = true ∨ far now a.2.1 = true)) ∧ ¬ (s.cl = true ∧ far a.2.1 s.beg = false) ∧ a ∉ keepA now s.M ∧ a ∈ (seenOf s a now).1.M := by
    unfold seenOf at ho ⊢
    split at ho
    · cases ho
    · rename_i g1
      split at ho
      · cases ho
      · rename_i g2
        split at ho
        · cases ho
        · rename_i g3
          split at ho
          · cases ho
          · rename_i g4
            rw [if_neg g1, if_neg g2, if_neg g3, if_neg g4]
            exact ⟨g1, g2, g3, List.mem_append_right _ (List.mem_singleton.2 rfl)⟩
  obtain ⟨g1, g2, g3, g4⟩ := hc
  have hf : far now a.2.1 = false := by
    cases hf : far now a.2.1 with
    | true => exact absurd (Or.inr hf) g1
    | false => rfl
  have hf2 : far a.2.1 now = false := by
    cases hf2 : far a.2.1 now with
    | true => exact absurd (Or.inl hf2) g1
    | false => rfl
  refine ⟨fun ht => ?_, fun t ht => ?_⟩
  · rcases h a ht with ⟨h1, _⟩ | h1 | h1
    · exact g3 (List.mem_filter.2 ⟨h1, by rw [hf]; rfl⟩)
    · rw [hf] at h1; cases h1
    · exact g2 h1
  · rcases List.mem_append.1 ht with ht | ht
    · exact h.seen a t ht
    · rw [List.mem_singleton.1 ht]
      rw [far_false] at hf2
      exact .inl ⟨g4, by omega⟩
end Go.Proofs.Ytgamlioahdbikaa
