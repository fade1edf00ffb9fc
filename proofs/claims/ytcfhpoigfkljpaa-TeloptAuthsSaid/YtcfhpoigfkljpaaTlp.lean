/- Telnet's stream, without memory: what bytes come to. Plain lemmas. -/
import Derived.Test.YtcfhpoigfkljpaaLib
namespace Go.Proofs.Ytcfhpoigfkljpaa

/-- A part of the stream. -/
structure Tl where
  kind : Int
  verb : Int
  opt : Int
  data : List UInt8
deriving DecidableEq
/-- A Reader: what it is behind (0 data, 1 a 255, 2 a verb, 3 an option's beginning, 4 its data, 5 a 255 among them), the part that isn't whole, the error. -/
structure Ts where
  beh : Nat
  part : Tl
  err : Int
deriving DecidableEq
def tl0 : Tl := ⟨0, 0, 0, []⟩
def ts0 : Ts := ⟨0, tl0, 0⟩
/-- A byte more of an option's data. -/
def addF (s : Ts) (b : Nat) (c : UInt8) : Ts := if s.part.data.length = 3000 then ⟨b, tl0, 23⟩ else ⟨b, { s.part with data := s.part.data ++ [c] }, s.err⟩
/-- What one byte comes to: the Reader, and the part that is whole with it. -/
def step (s : Ts) (c : UInt8) : Ts × Option Tl :=
  if s.beh = 0 then if c.toNat = 255 then (⟨1, s.part, s.err⟩, none) else (s, some ⟨1, 0, 0, [c]⟩)
  else if s.beh = 1 then
    if c.toNat = 255 then (⟨0, s.part, s.err⟩, some ⟨1, 0, 0, [c]⟩)
    else if 251 ≤ c.toNat then (⟨2, ⟨2, (c.toNat : Int), 0, []⟩, s.err⟩, none)
    else if c.toNat = 250 then (⟨3, ⟨3, 0, 0, []⟩, s.err⟩, none)
    else if c.toNat ≤ 240 then (⟨0, tl0, 21⟩, none)
    else (⟨0, s.part, s.err⟩, none)
  else if s.beh = 2 then (⟨0, tl0, s.err⟩, some { s.part with opt := (c.toNat : Int) })
  else if s.beh = 3 then (⟨4, { s.part with opt := (c.toNat : Int) }, s.err⟩, none)
  else if s.beh = 4 then if c.toNat = 255 then (⟨5, s.part, s.err⟩, none) else (addF s 4 c, none)
  else if s.beh = 5 then
    if c.toNat = 255 then (addF s 4 c, none)
    else if c.toNat = 240 then (⟨0, tl0, s.err⟩, some s.part)
    else (⟨5, tl0, 21⟩, none)
  else (s, none)
/-- A part behind parts: data go to data. -/
def join (ps : List Tl) (p : Tl) : List Tl :=
  if p.kind = 1 ∧ (ps.getLast?.map Tl.kind) = some 1 then ps.dropLast ++ (ps.getLast?.map fun q => { q with data := q.data ++ p.data }).toList else ps ++ [p]
def joins (ps : List Tl) (o : Option Tl) : List Tl := o.elim ps (join ps)
def putF (l : List Tl) : List Tl := l.foldl join []
/-- All that comes of bytes: the parts, each with how many bytes had come, and the Reader. -/
def run : Ts → Nat → List UInt8 → List (Tl × Nat) × Ts
  | s, _, [] => ([], s)
  | s, n, c :: d => if s.err ≠ 0 then ([], s) else ((step s c).2.toList.map (fun p => (p, n + 1)) ++ (run (step s c).1 (n + 1) d).1, (run (step s c).1 (n + 1) d).2)
def evs (s : Ts) (d : List UInt8) : List Tl := (run s 0 d).1.map Prod.fst
/-- What a Feed answers. -/
def feedT (s : Ts) (d : List UInt8) : List Tl := if (run s 0 d).2.err ≠ 0 then [] else putF (evs s d)
def endT (s : Ts) (d : List UInt8) : Ts := (run s 0 d).2

theorem run_stop {s : Ts} (h : s.err ≠ 0) (n : Nat) (d : List UInt8) : run s n d = ([], s) := by
  cases d with
  | nil => rfl
  | cons c d => unfold run; rw [if_pos h]
theorem run_at (s : Ts) (n m : Nat) (d : List UInt8) : run s (n + m) d = ((run s n d).1.map (fun p => (p.1, p.2 + m)), (run s n d).2) := by
  induction d generalizing s n with
  | nil => rfl
  | cons c d ih =>
    unfold run
    by_cases h : s.err ≠ 0
    · rw [if_pos h, if_pos h]; rfl
    · rw [if_neg h, if_neg h, show n + m + 1 = (n + 1) + m by omega, ih]
      simp [List.map_append, Function.comp_def, Nat.add_right_comm]
theorem run_end (s : Ts) (n : Nat) (d : List UInt8) : (run s n d).2 = endT s d := by
  have := run_at s 0 n d
  rw [Nat.zero_add] at this
  rw [this]
  rfl
theorem run_evs (s : Ts) (n : Nat) (d : List UInt8) : (run s n d).1.map Prod.fst = evs s d := by
  have := run_at s 0 n d
  rw [Nat.zero_add] at this
  rw [this, evs]
  simp [Function.comp_def]
theorem run_cons {s : Ts} (h : ¬ s.err ≠ 0) (n : Nat) (c : UInt8) (d : List UInt8) : run s n (c :: d) = ((step s c).2.toList.map (fun p => (p, n + 1)) ++ (run (step s c).1 (n + 1) d).1, (run (step s c).1 (n + 1) d).2) := by
  show (if s.err ≠ 0 then _ else _) = _
  rw [if_neg h]
theorem run_app (s : Ts) (n : Nat) (a b : List UInt8) : run s n (a ++ b) = ((run s n a).1 ++ (run (run s n a).2 (n + a.length) b).1, (run (run s n a).2 (n + a.length) b).2) := by
  induction a generalizing s n with
  | nil => simp [run]
  | cons c a ih =>
    by_cases h : s.err ≠ 0
    · rw [run_stop h, run_stop h]
      simp [run_stop h]
    · rw [List.cons_append, run_cons h, run_cons h, ih, List.length_cons, show n + 1 + a.length = n + (a.length + 1) by omega, List.append_assoc]
theorem endT_app (s : Ts) (a b : List UInt8) : endT s (a ++ b) = endT (endT s a) b := by
  unfold endT
  rw [run_app]
  exact run_end _ _ _
theorem evs_app (s : Ts) (a b : List UInt8) : evs s (a ++ b) = evs s a ++ evs (endT s a) b := by
  unfold evs
  rw [run_app, List.map_append]
  exact congrArg _ (run_evs _ _ _)
theorem evs_nil (s : Ts) : evs s [] = [] := rfl
theorem endT_nil (s : Ts) : endT s [] = s := rfl
theorem evs_one {s : Ts} (h : s.err = 0) (c : UInt8) : evs s [c] = (step s c).2.toList := by
  unfold evs run
  rw [if_neg (by simp [h])]
  cases (step s c).2 <;> simp [run]
theorem endT_one {s : Ts} (h : s.err = 0) (c : UInt8) : endT s [c] = (step s c).1 := by
  unfold endT run
  rw [if_neg (by simp [h])]
  rfl
theorem evs_stop {s : Ts} (h : s.err ≠ 0) (d : List UInt8) : evs s d = [] := by unfold evs; rw [run_stop h]; rfl
theorem endT_stop {s : Ts} (h : s.err ≠ 0) (d : List UInt8) : endT s d = s := by unfold endT; rw [run_stop h]
theorem run_bounds (s : Ts) (n : Nat) (d : List UInt8) : ∀ p ∈ (run s n d).1, n < p.2 ∧ p.2 ≤ n + d.length := by
  induction d generalizing s n with
  | nil => intro p hp; cases hp
  | cons c d ih =>
    intro p hp
    unfold run at hp
    by_cases h : s.err ≠ 0
    · rw [if_pos h] at hp; cases hp
    · rw [if_neg h] at hp
      rcases List.mem_append.1 hp with hp | hp
      · obtain ⟨q, _, rfl⟩ := List.mem_map.1 hp
        simp
      · have := ih _ _ p hp
        simp
        omega
theorem putF_nil : putF [] = [] := rfl
theorem putF_snoc (l : List Tl) (p : Tl) : putF (l ++ [p]) = join (putF l) p := by unfold putF; rw [List.foldl_append]; rfl
theorem joins_eq (l : List Tl) (o : Option Tl) : putF (l ++ o.toList) = joins (putF l) o := by
  cases o with
  | none => simp [joins]
  | some p => exact putF_snoc l p
theorem join_cons (ps : List Tl) (p q : Tl) (hp : p.kind = 1) (hq : q.kind = 1) : join (join ps p) q = join ps { p with data := p.data ++ q.data } := by
  unfold join
  by_cases h : ps.getLast?.map Tl.kind = some 1
  · obtain ⟨r, hr, hk⟩ := Option.map_eq_some_iff.1 h
    obtain ⟨X, rfl⟩ : ∃ X, ps = X ++ [r] := by
      obtain ⟨X, hX⟩ := List.getLast?_eq_some_iff.1 hr
      exact ⟨X, hX⟩
    simp [hp, hq, hk, List.append_assoc]
  · simp [hp, hq, h]
theorem foldl_put (l : List Tl) : ∀ ps : List Tl, (putF l).foldl join ps = l.foldl join ps := by
  induction h : l.length generalizing l with
  | zero => intro ps; rw [List.eq_nil_of_length_eq_zero h]; rfl
  | succ n ih =>
    intro ps
    obtain ⟨X, p, rfl⟩ : ∃ X p, l = X ++ [p] := ⟨l.dropLast, l.getLast (by intro e; simp [e] at h), (List.dropLast_concat_getLast _).symm⟩
    have hX := ih X (by simp at h; exact h)
    rw [putF_snoc, List.foldl_append]
    show (join (putF X) p).foldl join ps = join (X.foldl join ps) p
    rw [← hX]
    by_cases hp : p.kind = 1 ∧ (putF X).getLast?.map Tl.kind = some 1
    · obtain ⟨r, hr, hk⟩ := Option.map_eq_some_iff.1 hp.2
      obtain ⟨Y, hY⟩ := List.getLast?_eq_some_iff.1 hr
      rw [hY, List.foldl_append]
      show _ = join (join (Y.foldl join ps) r) p
      rw [join_cons _ _ _ hk hp.1]
      unfold join
      simp [hp.1, hk]
    · have : join (putF X) p = putF X ++ [p] := by unfold join; rw [if_neg hp]
      rw [this, List.foldl_append]
      rfl
theorem putF_app (a b : List Tl) : putF (putF a ++ b) = putF (a ++ b) := by
  unfold putF
  rw [List.foldl_append, List.foldl_append]
  have := foldl_put a []
  unfold putF at this
  rw [this]
theorem putF_both (a b : List Tl) : putF (a ++ putF b) = putF (a ++ b) := by
  unfold putF
  rw [List.foldl_append, List.foldl_append]
  exact foldl_put b _
theorem join_length (ps : List Tl) (p : Tl) : (join ps p).length ≤ ps.length + 1 := by
  unfold join
  split
  · rename_i h
    obtain ⟨r, hr, _⟩ := Option.map_eq_some_iff.1 h.2
    rw [hr]
    simp
  · simp
theorem putF_length (l : List Tl) : (putF l).length ≤ l.length := by
  induction h : l.length generalizing l with
  | zero => rw [List.eq_nil_of_length_eq_zero h]; simp [putF]
  | succ n ih =>
    obtain ⟨X, p, rfl⟩ : ∃ X p, l = X ++ [p] := ⟨l.dropLast, l.getLast (by intro e; simp [e] at h), (List.dropLast_concat_getLast _).symm⟩
    have hX := ih X (by simp at h; exact h)
    rw [putF_snoc]
    have := join_length (putF X) p
    omega
theorem evs_length (s : Ts) (d : List UInt8) : (evs s d).length ≤ d.length := by
  induction d generalizing s with
  | nil => simp [evs, run]
  | cons c d ih =>
    by_cases h : s.err ≠ 0
    · rw [evs_stop h]; simp
    · rw [show c :: d = [c] ++ d from rfl, evs_app, evs_one (by omega), endT_one (by omega), List.length_append]
      have := ih (step s c).1
      have : (step s c).2.toList.length ≤ 1 := by cases (step s c).2 <;> simp
      simp
      omega
/-- All bytes of data of parts. -/
def sumD (l : List Tl) : Nat := (l.map fun p => p.data.length).sum
theorem sumD_app (a b : List Tl) : sumD (a ++ b) = sumD a + sumD b := by simp [sumD]
theorem join_sum (ps : List Tl) (p : Tl) : sumD (join ps p) = sumD ps + p.data.length := by
  unfold join
  split
  · rename_i h
    obtain ⟨r, hr, _⟩ := Option.map_eq_some_iff.1 h.2
    obtain ⟨X, rfl⟩ := List.getLast?_eq_some_iff.1 hr
    simp [sumD]
    omega
  · simp [sumD]
/-- What is kept: where a Reader is. -/
def OkT (s : Ts) : Prop := (s.beh = 0 ∧ s.part = tl0) ∨ (s.err = 0 ∧ ((s.beh = 1 ∧ s.part = tl0) ∨ (s.beh = 2 ∧ s.part.kind = 2 ∧ s.part.data = [] ∧ s.part.opt = 0 ∧ 251 ≤ s.part.verb ∧ s.part.verb ≤ 254) ∨ (s.beh = 3 ∧ s.part = ⟨3, 0, 0, []⟩) ∨
  ((s.beh = 4 ∨ s.beh = 5) ∧ s.part.kind = 3 ∧ s.part.verb = 0 ∧ s.part.data.length ≤ 3000))) ∨ (s.err ≠ 0 ∧ s.part = tl0 ∧ s.beh ≤ 5)
theorem OkT.beh {s : Ts} (h : OkT s) : s.beh ≤ 5 := by
  rcases h with ⟨h, _⟩ | ⟨_, ⟨h, _⟩ | ⟨h, _⟩ | ⟨h, _⟩ | ⟨h, _⟩⟩ | ⟨_, _, h⟩ <;> omega
theorem OkT.data {s : Ts} (h : OkT s) : s.part.data.length ≤ 3000 := by
  rcases h with ⟨_, h⟩ | ⟨_, ⟨_, h⟩ | ⟨_, _, h, _⟩ | ⟨_, h⟩ | ⟨_, _, _, h⟩⟩ | ⟨_, h, _⟩ <;> first | exact h | (rw [h]; simp [tl0]; done) | (rw [h]; exact Nat.zero_le _)
theorem ok_ts0 : OkT ts0 := .inl ⟨rfl, rfl⟩
theorem OkT.step {s : Ts} (h : OkT s) (he : s.err = 0) (c : UInt8) : OkT (step s c).1 := by
  have hc := c.toNat_lt
  obtain ⟨b, p, e⟩ := s
  simp only at he
  subst he
  rcases h with ⟨rfl, rfl⟩ | ⟨_, ⟨rfl, rfl⟩ | ⟨rfl, h1, h2, h3, h4⟩ | ⟨rfl, rfl⟩ | ⟨rfl | rfl, h1, h2, h3⟩⟩ | ⟨h, _⟩
  · unfold Go.Proofs.Ytcfhpoigfkljpaa.step
    simp only [if_true]
    split
    · exact .inr (.inl ⟨rfl, .inl ⟨rfl, rfl⟩⟩)
    · exact .inl ⟨rfl, rfl⟩
  · unfold Go.Proofs.Ytcfhpoigfkljpaa.step
    simp only [Nat.succ_ne_self, if_false, if_true]
    split
    · exact .inl ⟨rfl, rfl⟩
    split
    · refine .inr (.inl ⟨rfl, .inr (.inl ⟨rfl, rfl, rfl, rfl, ?_, ?_⟩)⟩) <;> simp <;> omega
    split
    · exact .inr (.inl ⟨rfl, .inr (.inr (.inl ⟨rfl, rfl⟩))⟩)
    split
    · exact .inl ⟨rfl, rfl⟩
    · exact .inl ⟨rfl, rfl⟩
  · exact .inl ⟨rfl, rfl⟩
  · exact .inr (.inl ⟨rfl, .inr (.inr (.inr ⟨.inl rfl, rfl, rfl, by show (0 : Nat) ≤ _; omega⟩))⟩)
  · have hadd : OkT (addF ⟨4, p, 0⟩ 4 c) := by
      unfold addF
      split
      · exact .inr (.inr ⟨by decide, rfl, by decide⟩)
      · rename_i hn
        exact .inr (.inl ⟨rfl, .inr (.inr (.inr ⟨.inl rfl, h1, h2, by simp at hn h3 ⊢; omega⟩))⟩)
    show OkT (if c.toNat = 255 then _ else _ : Ts × Option Tl).1
    split
    · exact .inr (.inl ⟨rfl, .inr (.inr (.inr ⟨.inr rfl, h1, h2, h3⟩))⟩)
    · exact hadd
  · have hadd : OkT (addF ⟨5, p, 0⟩ 4 c) := by
      unfold addF
      split
      · exact .inr (.inr ⟨by decide, rfl, by decide⟩)
      · rename_i hn
        exact .inr (.inl ⟨rfl, .inr (.inr (.inr ⟨.inl rfl, h1, h2, by simp at hn h3 ⊢; omega⟩))⟩)
    show OkT (if c.toNat = 255 then _ else if c.toNat = 240 then _ else _ : Ts × Option Tl).1
    split
    · exact hadd
    split
    · exact .inl ⟨rfl, rfl⟩
    · exact .inr (.inr ⟨by decide, rfl, by decide⟩)
  · exact absurd rfl h
theorem OkT.end_ {s : Ts} (h : OkT s) (d : List UInt8) : OkT (endT s d) := by
  induction d generalizing s with
  | nil => exact h
  | cons c d ih =>
    by_cases he : s.err ≠ 0
    · rw [endT_stop he]; exact h
    · rw [show c :: d = [c] ++ d from rfl, endT_app, endT_one (by omega)]
      exact ih (h.step (by omega) c)
end Go.Proofs.Ytcfhpoigfkljpaa
