/- A terminal's line, without memory: what bytes that are typed come to. Plain lemmas. -/
import Derived.Test.YtbkaabimafipoaaLib
namespace Go.Proofs.Ytbkaabimafipoaa

/-- A terminal: its line, how often it was given up, whether the last byte was a 13. -/
structure Tm where
  line : List UInt8
  stops : Nat
  ret : Bool
/-- What is shown when n bytes are rubbed out. -/
def rubsN (n : Nat) : List UInt8 := (List.replicate n [8, 32, 8]).flatten
theorem rubsN_succ (n : Nat) : rubsN (n + 1) = rubsN n ++ [8, 32, 8] := by
  unfold rubsN
  rw [List.replicate_succ', List.flatten_append]
  simp
theorem rubsN_length (n : Nat) : (rubsN n).length = 3 * n := by
  induction n with
  | zero => rfl
  | succ n ih => rw [rubsN_succ, List.length_append, ih]; simp; omega
/-- What one byte comes to: the terminal, what is shown, the lines. -/
def tkF (s : Tm) (c : UInt8) : Tm × List UInt8 × List (List UInt8) :=
  if c.toNat = 13 ∨ (c.toNat = 10 ∧ s.ret = false) then (⟨[], s.stops, decide (c.toNat = 13)⟩, [13, 10], [s.line])
  else if c.toNat = 8 ∨ c.toNat = 127 then (⟨s.line.dropLast, s.stops, false⟩, rubsN (min 1 s.line.length), [])
  else if c.toNat = 21 then (⟨[], s.stops, false⟩, rubsN s.line.length, [])
  else if c.toNat = 3 then (⟨[], s.stops + 1, false⟩, [94, 67, 13, 10], [])
  else if 32 ≤ c.toNat ∧ c.toNat < 127 then
    if s.line.length < 80 then (⟨s.line ++ [c], s.stops, false⟩, [c], []) else (⟨s.line, s.stops, false⟩, [7], [])
  else (⟨s.line, s.stops, false⟩, [], [])
theorem tk13 {s : Tm} {c : UInt8} (hc : c.toNat = 13) : tkF s c = (⟨[], s.stops, true⟩, [13, 10], [s.line]) := by unfold tkF; rw [if_pos (.inl hc)]; simp [hc]
theorem tk10 {s : Tm} {c : UInt8} (hc : c.toNat = 10) (hr : s.ret = false) : tkF s c = (⟨[], s.stops, false⟩, [13, 10], [s.line]) := by unfold tkF; rw [if_pos (.inr ⟨hc, hr⟩)]; simp [hc]
theorem tk10r {s : Tm} {c : UInt8} (hc : c.toNat = 10) (hr : s.ret = true) : tkF s c = (⟨s.line, s.stops, false⟩, [], []) := by
  unfold tkF
  rw [if_neg (by simp [hr]; omega), if_neg (by omega), if_neg (by omega), if_neg (by omega), if_neg (by omega)]
theorem tk8 {s : Tm} {c : UInt8} (hc : c.toNat = 8 ∨ c.toNat = 127) : tkF s c = (⟨s.line.dropLast, s.stops, false⟩, rubsN (min 1 s.line.length), []) := by unfold tkF; rw [if_neg (by omega), if_pos hc]
theorem tk21 {s : Tm} {c : UInt8} (hc : c.toNat = 21) : tkF s c = (⟨[], s.stops, false⟩, rubsN s.line.length, []) := by unfold tkF; rw [if_neg (by omega), if_neg (by omega), if_pos hc]
theorem tk3 {s : Tm} {c : UInt8} (hc : c.toNat = 3) : tkF s c = (⟨[], s.stops + 1, false⟩, [94, 67, 13, 10], []) := by unfold tkF; rw [if_neg (by omega), if_neg (by omega), if_neg (by omega), if_pos hc]
theorem tkAdd {s : Tm} {c : UInt8} (hc : 32 ≤ c.toNat ∧ c.toNat < 127) (h : s.line.length < 80) : tkF s c = (⟨s.line ++ [c], s.stops, false⟩, [c], []) := by
  unfold tkF
  rw [if_neg (by omega), if_neg (by omega), if_neg (by omega), if_neg (by omega), if_pos hc, if_pos h]
theorem tkFull {s : Tm} {c : UInt8} (hc : 32 ≤ c.toNat ∧ c.toNat < 127) (h : ¬ s.line.length < 80) : tkF s c = (⟨s.line, s.stops, false⟩, [7], []) := by
  unfold tkF
  rw [if_neg (by omega), if_neg (by omega), if_neg (by omega), if_neg (by omega), if_pos hc, if_neg h]
theorem tkNone {s : Tm} {c : UInt8} (hc : (c.toNat < 32 ∧ c.toNat ≠ 10 ∧ c.toNat ≠ 13 ∧ c.toNat ≠ 8 ∧ c.toNat ≠ 21 ∧ c.toNat ≠ 3) ∨ 127 < c.toNat) : tkF s c = (⟨s.line, s.stops, false⟩, [], []) := by
  unfold tkF
  rw [if_neg (by omega), if_neg (by omega), if_neg (by omega), if_neg (by omega), if_neg (by omega)]
/-- What bytes come to. -/
def fdF (s : Tm) : List UInt8 → Tm × List UInt8 × List (List UInt8)
  | [] => (s, [], [])
  | c :: d => ((fdF (tkF s c).1 d).1, (tkF s c).2.1 ++ (fdF (tkF s c).1 d).2.1, (tkF s c).2.2 ++ (fdF (tkF s c).1 d).2.2)
theorem fdF_app (s : Tm) (a b : List UInt8) : fdF s (a ++ b) = ((fdF (fdF s a).1 b).1, (fdF s a).2.1 ++ (fdF (fdF s a).1 b).2.1, (fdF s a).2.2 ++ (fdF (fdF s a).1 b).2.2) := by
  induction a generalizing s with
  | nil => simp [fdF]
  | cons c a ih => simp [fdF, ih, List.append_assoc]
theorem fdF_one (s : Tm) (c : UInt8) : fdF s [c] = tkF s c := by simp [fdF]
theorem fdF_snoc (s : Tm) (a : List UInt8) (c : UInt8) : fdF s (a ++ [c]) = ((tkF (fdF s a).1 c).1, (fdF s a).2.1 ++ (tkF (fdF s a).1 c).2.1, (fdF s a).2.2 ++ (tkF (fdF s a).1 c).2.2) := by
  rw [fdF_app, fdF_one]
theorem fdF_take (s : Tm) (l : List UInt8) (k : Nat) (h : k < l.length) : fdF s (l.take (k + 1)) = ((tkF (fdF s (l.take k)).1 l[k]).1, (fdF s (l.take k)).2.1 ++ (tkF (fdF s (l.take k)).1 l[k]).2.1, (fdF s (l.take k)).2.2 ++ (tkF (fdF s (l.take k)).1 l[k]).2.2) := by
  rw [List.take_succ_eq_append_getElem h, fdF_snoc]
/-- What is kept by every byte: no line is longer than may be. -/
theorem tkF_line {s : Tm} (h : s.line.length ≤ 80) (c : UInt8) : (tkF s c).1.line.length ≤ 80 := by
  unfold tkF
  split
  · simp
  split
  · simp; omega
  split
  · simp
  split
  · simp
  split
  · split
    · simp; omega
    · exact h
  · exact h
theorem tkF_stops (s : Tm) (c : UInt8) : (tkF s c).1.stops ≤ s.stops + 1 := by
  unfold tkF
  repeat' split
  all_goals simp
theorem tkF_shown {s : Tm} (h : s.line.length ≤ 80) (c : UInt8) : (tkF s c).2.1.length ≤ 240 := by
  unfold tkF
  repeat' split
  all_goals simp [rubsN_length]
  all_goals omega
theorem tkF_lines (s : Tm) (c : UInt8) : (tkF s c).2.2.length ≤ 1 := by
  unfold tkF
  repeat' split
  all_goals simp
theorem tkF_lineN {s : Tm} (h : s.line.length ≤ 80) (c : UInt8) : ∀ x ∈ (tkF s c).2.2, x.length ≤ 80 := by
  unfold tkF
  repeat' split
  all_goals simp
  all_goals omega
theorem fdF_line {s : Tm} (h : s.line.length ≤ 80) (l : List UInt8) : (fdF s l).1.line.length ≤ 80 := by
  induction l generalizing s with
  | nil => exact h
  | cons c l ih => exact ih (tkF_line h c)
theorem fdF_stops (s : Tm) (l : List UInt8) : (fdF s l).1.stops ≤ s.stops + l.length := by
  induction l generalizing s with
  | nil => exact Nat.le_refl _
  | cons c l ih =>
    have h1 := ih (s := (tkF s c).1)
    have h2 := tkF_stops s c
    show (fdF (tkF s c).1 l).1.stops ≤ _
    rw [List.length_cons]
    omega
theorem fdF_shown {s : Tm} (h : s.line.length ≤ 80) (l : List UInt8) : (fdF s l).2.1.length ≤ 240 * l.length := by
  induction l generalizing s with
  | nil => exact Nat.zero_le _
  | cons c l ih =>
    have h1 := ih (tkF_line h c)
    have h2 := tkF_shown h c
    show ((tkF s c).2.1 ++ (fdF (tkF s c).1 l).2.1).length ≤ _
    rw [List.length_cons, List.length_append]
    omega
theorem fdF_lines (s : Tm) (l : List UInt8) : (fdF s l).2.2.length ≤ l.length := by
  induction l generalizing s with
  | nil => exact Nat.zero_le _
  | cons c l ih =>
    have h1 := ih (s := (tkF s c).1)
    have h2 := tkF_lines s c
    show ((tkF s c).2.2 ++ (fdF (tkF s c).1 l).2.2).length ≤ _
    rw [List.length_cons, List.length_append]
    omega
theorem fdF_lineN {s : Tm} (h : s.line.length ≤ 80) (l : List UInt8) : ∀ x ∈ (fdF s l).2.2, x.length ≤ 80 := by
  induction l generalizing s with
  | nil => intro x hx; cases hx
  | cons c l ih =>
    intro x hx
    rcases List.mem_append.1 (show x ∈ (tkF s c).2.2 ++ (fdF (tkF s c).1 l).2.2 from hx) with hx | hx
    · exact tkF_lineN h c x hx
    · exact ih (tkF_line h c) x hx

/-- A byte that is no more than itself. -/
def plainB (c : UInt8) : Bool := decide (32 ≤ c.toNat) && decide (c.toNat < 127)
theorem tkF_plain {s : Tm} {c : UInt8} (hc : plainB c = true) (h : s.line.length < 80) : tkF s c = (⟨s.line ++ [c], s.stops, false⟩, [c], []) := by
  simp [plainB] at hc
  unfold tkF
  rw [if_neg (by omega), if_neg (by omega), if_neg (by omega), if_neg (by omega), if_pos (by omega), if_pos h]
theorem fdF_plain {l : List UInt8} (hl : l.all plainB = true) : ∀ {s : Tm}, s.line.length + l.length ≤ 80 → fdF s l = (⟨s.line ++ l, s.stops, if l = [] then s.ret else false⟩, l, []) := by
  induction l with
  | nil => intro s _; simp [fdF]
  | cons c l ih =>
    intro s h
    rw [List.all_cons, Bool.and_eq_true] at hl
    rw [List.length_cons] at h
    have h1 := tkF_plain (s := s) hl.1 (by omega)
    have h2 := ih hl.2 (s := (tkF s c).1) (by rw [h1]; simp; omega)
    rw [h1] at h2
    unfold fdF
    rw [h1, h2]
    simp
/-- The bytes that rub out, one of each kind in turn. -/
def rubL (n : Nat) : List UInt8 := (List.range n).map fun k => if k % 2 = 0 then 8 else 127
theorem rubL_succ (n : Nat) : rubL (n + 1) = rubL n ++ [if n % 2 = 0 then 8 else 127] := by
  unfold rubL
  rw [List.range_succ, List.map_append]
  rfl
theorem rubL_length (n : Nat) : (rubL n).length = n := by simp [rubL]
theorem fdF_rubL (s : Tm) : ∀ (n : Nat), n ≤ s.line.length → (fdF s (rubL n)).1.line = s.line.take (s.line.length - n) ∧ (fdF s (rubL n)).2.1.length = 3 * n ∧ (fdF s (rubL n)).2.2 = []
  | 0, _ => by simp [rubL, fdF]
  | n + 1, h => by
    obtain ⟨h1, h2, h3⟩ := fdF_rubL s n (by omega)
    have hk : ∀ c : UInt8, c.toNat = 8 ∨ c.toNat = 127 → tkF (fdF s (rubL n)).1 c = (⟨(fdF s (rubL n)).1.line.dropLast, (fdF s (rubL n)).1.stops, false⟩, rubsN (min 1 (fdF s (rubL n)).1.line.length), []) := by
      intro c hc
      unfold tkF
      rw [if_neg (by omega), if_pos hc]
    have ht := hk (if n % 2 = 0 then 8 else 127) (by split <;> simp)
    rw [rubL_succ, fdF_snoc, ht]
    refine ⟨?_, ?_, ?_⟩
    · show (fdF s (rubL n)).1.line.dropLast = _
      rw [h1, List.dropLast_eq_take, List.take_take, List.length_take]
      congr 1
      omega
    · show ((fdF s (rubL n)).2.1 ++ rubsN _).length = _
      rw [List.length_append, h2, rubsN_length, h1, List.length_take]
      omega
    · show (fdF s (rubL n)).2.2 ++ [] = []
      rw [h3]
      rfl
theorem fdF_21 (s : Tm) : (fdF s [21]).1 = ⟨[], s.stops, false⟩ := by
  rw [fdF_one]
  rfl
theorem fdF_enter (s : Tm) : fdF s [13, 10] = (⟨[], s.stops, false⟩, [13, 10], [s.line]) := by
  simp [fdF, tkF]
/-- A line that is typed. -/
theorem fdF_typed {l : List UInt8} (hl : l.all plainB = true) (h : l.length ≤ 80) (s : Tm) (hs : s.line = []) : fdF s (l ++ [13, 10]) = (⟨[], s.stops, false⟩, l ++ [13, 10], [l]) := by
  have h1 := fdF_plain hl (s := s) (by rw [hs]; simpa using h)
  rw [fdF_app, h1, fdF_enter, hs]
  simp
theorem fdF_rubs {a b : List UInt8} (ha : a.all plainB = true) (hb : b.all plainB = true) (h : a.length + b.length ≤ 80) :
    (fdF (fdF (fdF ⟨[], 0, false⟩ a).1 b).1 (rubL b.length)).1.line = a ∧ (fdF (fdF (fdF ⟨[], 0, false⟩ a).1 b).1 (rubL b.length)).2.1.length = 3 * b.length ∧ (fdF (fdF (fdF ⟨[], 0, false⟩ a).1 b).1 (rubL b.length)).2.2 = [] := by
  have h1 := fdF_plain ha (s := ⟨[], 0, false⟩) (by simp; omega)
  have h2 := fdF_plain hb (s := (fdF ⟨[], 0, false⟩ a).1) (by rw [h1]; simp; omega)
  have h3 := fdF_rubL (fdF (fdF ⟨[], 0, false⟩ a).1 b).1 b.length (by rw [h2, h1]; simp)
  rw [h3.1, h3.2.1, h3.2.2, h2, h1]
  simp
theorem fdF_ls : fdF ⟨[], 0, false⟩ [108, 115, 120, 127, 13] = (⟨[], 0, true⟩, [108, 115, 120, 8, 32, 8, 13, 10], [[108, 115]]) := by rfl
end Go.Proofs.Ytbkaabimafipoaa
