/- Names as lists of bytes: what is right, their texts, what a text is read as. Plain lemmas, no program. -/
import Derived.Test.YtfpcabfpnekejaaDoorProg
import Derived.Lib.Split
import Derived.Lib.Join
import Derived.Lib.IndexMore
namespace Go.Proofs.YtfpcabfpnekejaaDoor

def rightB (c : UInt8) : Bool := (decide (65 ≤ c.toNat) && decide (c.toNat ≤ 90)) || (decide (97 ≤ c.toNat) && decide (c.toNat ≤ 122)) || (decide (48 ≤ c.toNat) && decide (c.toNat ≤ 57)) || c.toNat == 45 || c.toNat == 46 || c.toNat == 95 || c.toNat == 43
def partOk (l : List UInt8) : Bool := decide (1 ≤ l.length) && decide (l.length ≤ 16) && l.all rightB
def nameOk (ps : List (List UInt8)) (r : List UInt8) : Bool := decide (1 ≤ ps.length) && decide (ps.length ≤ 3) && ps.all partOk && partOk r
def textOf (ps : List (List UInt8)) (r : List UInt8) : List UInt8 := Lib.join ps [47] ++ [64] ++ r

def cut1 (c : UInt8) : List UInt8 → List UInt8 × List UInt8 × Bool
  | [] => ([], [], false)
  | b :: l => if b = c then ([], l, true) else (b :: (cut1 c l).1, (cut1 c l).2.1, (cut1 c l).2.2)
def pieces1 (c : UInt8) : List UInt8 → List (List UInt8)
  | [] => [[]]
  | b :: l => if b = c then [] :: pieces1 c l else match pieces1 c l with
    | [] => [[b]]
    | p :: ps => (b :: p) :: ps

theorem pre_one (c b : UInt8) (l : List UInt8) : [c].isPrefixOf (b :: l) = (c == b) := by simp [List.isPrefixOf]
theorem index_one_cons (c b : UInt8) (l : List UInt8) : Lib.index (b :: l) [c] = if c = b then 0 else if Lib.index l [c] == -1 then -1 else Lib.index l [c] + 1 := by
  rw [Lib.index, pre_one]
  by_cases h : c = b <;> simp [h]
theorem index_one_nil (c : UInt8) : Lib.index [] [c] = -1 := rfl
/-- The first c of a list: none, or the list is parted there. -/
theorem index_one (c : UInt8) : ∀ l : List UInt8, (Lib.index l [c] = -1 ∧ c ∉ l) ∨ ∃ a b, l = a ++ c :: b ∧ c ∉ a ∧ Lib.index l [c] = (a.length : Int)
  | [] => .inl ⟨rfl, by simp⟩
  | x :: l => by
    rw [index_one_cons]
    by_cases h : c = x
    · subst h
      exact .inr ⟨[], l, rfl, by simp, by simp⟩
    · rw [if_neg h]
      rcases index_one c l with ⟨h1, h2⟩ | ⟨a, b, h1, h2, h3⟩
      · exact .inl ⟨by simp [h1], by simp [h, h2]⟩
      · refine .inr ⟨x :: a, b, by simp [h1], by simp [h, h2], ?_⟩
        have hne : ((a.length : Int) == -1) = false := by rw [beq_eq_false_iff_ne]; omega
        rw [h3, hne]
        simp
theorem cut1_none (c : UInt8) : ∀ l : List UInt8, c ∉ l → cut1 c l = (l, [], false)
  | [], _ => rfl
  | x :: l, h => by
    have h1 : ¬ x = c := fun e => h (by simp [e])
    rw [cut1, if_neg h1, cut1_none c l (fun e => h (by simp [e]))]
theorem cut1_at (c : UInt8) (b : List UInt8) : ∀ a : List UInt8, c ∉ a → cut1 c (a ++ c :: b) = (a, b, true)
  | [], _ => by rw [List.nil_append, cut1, if_pos rfl]
  | x :: a, h => by
    have h1 : ¬ x = c := fun e => h (by simp [e])
    rw [List.cons_append, cut1, if_neg h1, cut1_at c b a (fun e => h (by simp [e]))]
theorem toNat_len (a : List UInt8) : ((a.length : Nat) : Int).toNat = a.length := by omega
theorem lib_cut (c : UInt8) (l : List UInt8) : Lib.cut l [c] = cut1 c l := by
  rcases index_one c l with ⟨h1, h2⟩ | ⟨a, b, rfl, h2, h3⟩
  · rw [Lib.cut, h1, if_neg (by decide), cut1_none c l h2]
  · rw [Lib.cut, h3, if_pos (by omega), cut1_at c b a h2]
    simp [List.drop_append]
theorem drop_at (c : UInt8) (a b : List UInt8) : (a ++ c :: b).drop (a.length + 1) = b := by
  rw [show a ++ c :: b = (a ++ [c]) ++ b by simp]
  exact List.drop_left' (by simp)
theorem pieces1_none (c : UInt8) : ∀ l : List UInt8, c ∉ l → pieces1 c l = [l]
  | [], _ => rfl
  | x :: l, h => by
    have h1 : ¬ x = c := fun e => h (by simp [e])
    rw [pieces1, if_neg h1, pieces1_none c l (fun e => h (by simp [e]))]
theorem pieces1_at (c : UInt8) (b : List UInt8) : ∀ a : List UInt8, c ∉ a → pieces1 c (a ++ c :: b) = a :: pieces1 c b
  | [], _ => by rw [List.nil_append, pieces1, if_pos rfl]
  | x :: a, h => by
    have h1 : ¬ x = c := fun e => h (by simp [e])
    rw [List.cons_append, pieces1, if_neg h1, pieces1_at c b a (fun e => h (by simp [e]))]
theorem pieces1_ne (c : UInt8) (l : List UInt8) : pieces1 c l ≠ [] := by
  rcases index_one c l with ⟨_, h⟩ | ⟨a, b, rfl, h, _⟩
  · rw [pieces1_none c l h]; simp
  · rw [pieces1_at c b a h]; simp
theorem splitK_one (c : UInt8) : ∀ (k : Nat) (l : List UInt8), l.count c ≤ k → Lib.splitK [c] 0 k l = pieces1 c l
  | 0, l, h => by
    rw [Lib.splitK, pieces1_none c l (List.count_eq_zero.1 (by omega))]
  | k + 1, l, h => by
    rw [Lib.splitK]
    rcases index_one c l with ⟨h1, h2⟩ | ⟨a, b, rfl, h2, h3⟩
    · rw [h1, if_pos (by decide), pieces1_none c l h2]
    · have hne : ((a.length : Int) == -1) = false := by rw [beq_eq_false_iff_ne]; omega
      rw [h3, hne, pieces1_at c b a h2]
      have hc : (a ++ c :: b).count c = b.count c + 1 := by rw [List.count_append, List.count_cons_self, List.count_eq_zero.2 h2]; omega
      have ih := splitK_one c k b (by omega)
      simp [ih]
theorem countFrom_one (c : UInt8) : ∀ (f : Nat) (l : List UInt8), l.length < f → Lib.countFrom [c] f l = l.count c
  | 0, l, h => by omega
  | f + 1, l, h => by
    rw [Lib.countFrom]
    rcases index_one c l with ⟨h1, h2⟩ | ⟨a, b, rfl, h2, h3⟩
    · rw [h1, if_pos (by decide), List.count_eq_zero.2 h2]
    · have ih := countFrom_one c f b (by simp at h; omega)
      have hne : ((a.length : Int) == -1) = false := by rw [beq_eq_false_iff_ne]; omega
      rw [h3, hne, List.count_append, List.count_cons_self, List.count_eq_zero.2 h2]
      simp [ih]
      omega
theorem lib_split (c : UInt8) (l : List UInt8) : Lib.split l [c] = pieces1 c l := by
  rw [Lib.split, Lib.count, countFrom_one c _ l (Nat.lt_succ_self _)]
  exact splitK_one c _ l (Nat.le_refl _)
theorem pieces1_length (c : UInt8) (l : List UInt8) : (pieces1 c l).length = l.count c + 1 := by
  induction l with
  | nil => rfl
  | cons b l ih =>
    rw [pieces1]
    by_cases h : b = c
    · rw [if_pos h, h, List.count_cons_self, List.length_cons, ih]
    · rw [if_neg h, List.count_cons_of_ne (by simpa using h), ← ih]
      cases hp : pieces1 c l with
      | nil => exact absurd hp (pieces1_ne c l)
      | cons p ps => rfl

theorem join_cons (p : List UInt8) (ps : List (List UInt8)) (h : ps ≠ []) (c : UInt8) : Lib.join (p :: ps) [c] = p ++ c :: Lib.join ps [c] := by
  cases ps with
  | nil => exact absurd rfl h
  | cons q qs => simp [Lib.join, List.intercalate]
theorem join_one (p : List UInt8) (c : UInt8) : Lib.join [p] [c] = p := by simp [Lib.join, List.intercalate]
theorem join_pieces (c : UInt8) : ∀ l : List UInt8, Lib.join (pieces1 c l) [c] = l
  | [] => join_one _ _
  | b :: l => by
    have ih := join_pieces c l
    rw [pieces1]
    by_cases h : b = c
    · rw [if_pos h, join_cons _ _ (pieces1_ne c l), ih, h]
      rfl
    · rw [if_neg h]
      cases hp : pieces1 c l with
      | nil => exact absurd hp (pieces1_ne c l)
      | cons p ps =>
        rw [hp] at ih
        cases ps with
        | nil => rw [join_one] at ih; simp only [join_one, ih]
        | cons q qs => rw [join_cons _ _ (by simp)] at ih; simp only [join_cons _ _ (show q :: qs ≠ [] by simp), List.cons_append, ih]
theorem pieces_join (c : UInt8) : ∀ ps : List (List UInt8), ps ≠ [] → (∀ p ∈ ps, c ∉ p) → pieces1 c (Lib.join ps [c]) = ps
  | [], h, _ => absurd rfl h
  | [p], _, h => by rw [join_one, pieces1_none c p (h p (by simp))]
  | p :: q :: qs, _, h => by
    rw [join_cons _ _ (by simp), pieces1_at c _ p (h p (by simp)), pieces_join c (q :: qs) (by simp) (fun x hx => h x (List.mem_cons_of_mem _ hx))]

theorem rightB_not {c : UInt8} (h : rightB c = true) : c ≠ 47 ∧ c ≠ 64 := ⟨fun e => by subst e; revert h; decide, fun e => by subst e; revert h; decide⟩
theorem partOk_not {l : List UInt8} (h : partOk l = true) : (47 : UInt8) ∉ l ∧ (64 : UInt8) ∉ l := by
  simp only [partOk, Bool.and_eq_true, List.all_eq_true] at h
  exact ⟨fun e => (rightB_not (h.2 _ e)).1 rfl, fun e => (rightB_not (h.2 _ e)).2 rfl⟩
theorem partOk_len {l : List UInt8} (h : partOk l = true) : 1 ≤ l.length ∧ l.length ≤ 16 := by
  simp only [partOk, Bool.and_eq_true, decide_eq_true_eq] at h
  exact h.1
theorem nameOk_iff {ps : List (List UInt8)} {r : List UInt8} : nameOk ps r = true ↔ (1 ≤ ps.length ∧ ps.length ≤ 3) ∧ (∀ p ∈ ps, partOk p = true) ∧ partOk r = true := by
  simp only [nameOk, Bool.and_eq_true, decide_eq_true_eq, List.all_eq_true]
  exact ⟨fun h => ⟨h.1.1, h.1.2, h.2⟩, fun h => ⟨⟨h.1, h.2.1⟩, h.2.2⟩⟩

/-- What a text is read as. -/
def partsOf (s : List UInt8) : List (List UInt8) := pieces1 47 (cut1 64 s).1
def realmOf (s : List UInt8) : List UInt8 := (cut1 64 s).2.1
def parses (s : List UInt8) : Bool := nameOk (partsOf s) (realmOf s)

theorem join_len (c : UInt8) : ∀ ps : List (List UInt8), ps ≠ [] → (∀ p ∈ ps, p.length ≤ 16) → (Lib.join ps [c]).length + 1 ≤ 17 * ps.length
  | [], h, _ => absurd rfl h
  | [p], _, h => by rw [join_one]; have := h p (by simp); simp; omega
  | p :: q :: qs, _, h => by
    have ih := join_len c (q :: qs) (by simp) (fun x hx => h x (List.mem_cons_of_mem _ hx))
    have := h p (by simp)
    rw [join_cons _ _ (by simp), List.length_append, List.length_cons, List.length_cons]
    omega
theorem join_not (c d : UInt8) (hd : c ≠ d) : ∀ ps : List (List UInt8), (∀ p ∈ ps, d ∉ p) → d ∉ Lib.join ps [c]
  | [], _ => by simp [Lib.join, List.intercalate]
  | [p], h => by rw [join_one]; exact h p (by simp)
  | p :: q :: qs, h => by
    have ih := join_not c d hd (q :: qs) (fun x hx => h x (List.mem_cons_of_mem _ hx))
    rw [join_cons _ _ (by simp)]
    intro e
    rcases List.mem_append.1 e with e | e
    · exact h p (by simp) e
    · rcases List.mem_cons.1 e with e | e
      · exact hd e.symm
      · exact ih e
/-- What is read has the text that it was read of. -/
theorem text_parse {s : List UInt8} (h : parses s = true) : textOf (partsOf s) (realmOf s) = s := by
  have hr := (partOk_len (nameOk_iff.1 h).2.2).1
  rcases index_one 64 s with ⟨_, h2⟩ | ⟨a, b, rfl, h2, _⟩
  · rw [realmOf, cut1_none 64 s h2] at hr
    simp at hr
  · rw [textOf, partsOf, realmOf, cut1_at 64 b a h2, join_pieces]
    simp
/-- A right name's text is read as that name. -/
theorem parse_text {ps : List (List UInt8)} {r : List UInt8} (h : nameOk ps r = true) : partsOf (textOf ps r) = ps ∧ realmOf (textOf ps r) = r ∧ parses (textOf ps r) = true := by
  obtain ⟨h1, h2, h3⟩ := nameOk_iff.1 h
  have hj : (64 : UInt8) ∉ Lib.join ps [47] := join_not 47 64 (by decide) ps (fun p hp => (partOk_not (h2 p hp)).2)
  have hc : cut1 64 (textOf ps r) = (Lib.join ps [47], r, true) := by
    rw [textOf, List.append_assoc]
    exact cut1_at 64 r _ hj
  have hp : partsOf (textOf ps r) = ps := by
    rw [partsOf, hc]
    exact pieces_join 47 ps (by intro e; subst e; simp at h1) (fun p hp => (partOk_not (h2 p hp)).1)
  have hr : realmOf (textOf ps r) = r := by rw [realmOf, hc]
  exact ⟨hp, hr, by rw [parses, hp, hr]; exact h⟩
theorem text_len {ps : List (List UInt8)} {r : List UInt8} (h : nameOk ps r = true) : (textOf ps r).length ≤ 67 := by
  obtain ⟨h1, h2, h3⟩ := nameOk_iff.1 h
  have := join_len 47 ps (by intro e; subst e; simp at h1) (fun p hp => (partOk_len (h2 p hp)).2)
  have := (partOk_len h3).2
  rw [textOf, List.length_append, List.length_append]
  simp
  omega
theorem parses_len {s : List UInt8} (h : parses s = true) : s.length ≤ 67 := by
  rw [← text_parse h]
  exact text_len h
end Go.Proofs.YtfpcabfpnekejaaDoor
