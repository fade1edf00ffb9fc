/- Telnet's stream, without memory: what comes between two places. Plain lemmas. -/
import Derived.Test.YtcfhpoigfkljpaaTlw
namespace Go.Proofs.Ytcfhpoigfkljpaa

/-- The parts that became whole between two places. -/
def selF (l : List (Tl × Nat)) (a b : Nat) : List Tl := (l.filter fun p => decide (a < p.2) && decide (p.2 ≤ b)).map Prod.fst
theorem selF_snoc (l : List (Tl × Nat)) (a b : Nat) (p : Tl × Nat) : selF (l ++ [p]) a b = if a < p.2 ∧ p.2 ≤ b then selF l a b ++ [p.1] else selF l a b := by
  unfold selF
  rw [List.filter_append, List.map_append]
  by_cases h : a < p.2 ∧ p.2 ≤ b
  · rw [if_pos h]; simp [h.1, h.2]
  · rw [if_neg h]
    have : (decide (a < p.2) && decide (p.2 ≤ b)) = false := by
      rw [Bool.and_eq_false_iff, decide_eq_false_iff_not, decide_eq_false_iff_not]
      omega
    simp [this]
theorem selF_take (l : List (Tl × Nat)) (a b k : Nat) (h : k < l.length) : selF (l.take (k + 1)) a b = if a < l[k].2 ∧ l[k].2 ≤ b then selF (l.take k) a b ++ [l[k].1] else selF (l.take k) a b := by
  rw [List.take_succ_eq_append_getElem h, selF_snoc]
theorem selF_nil (l : List (Tl × Nat)) (a b : Nat) (h : ∀ p ∈ l, p.2 ≤ a) : selF l a b = [] := by
  unfold selF
  rw [List.filter_eq_nil_iff.2, List.map_nil]
  intro p hp
  have := h p hp
  simp
  omega
theorem selF_all (l : List (Tl × Nat)) (a b : Nat) (h : ∀ p ∈ l, a < p.2 ∧ p.2 ≤ b) : selF l a b = l.map Prod.fst := by
  unfold selF
  rw [List.filter_eq_self.2]
  intro p hp
  have := h p hp
  simp
  exact this
theorem selF_append (l m : List (Tl × Nat)) (a b : Nat) : selF (l ++ m) a b = selF l a b ++ selF m a b := by
  unfold selF
  rw [List.filter_append, List.map_append]
/-- What comes of a piece is what becomes whole in it. -/
theorem sel_piece (a p : List UInt8) : selF (run ts0 0 (a ++ p)).1 a.length (a ++ p).length = evs (endT ts0 a) p := by
  rw [run_app]
  show selF ((run ts0 0 a).1 ++ (run (endT ts0 a) (0 + a.length) p).1) _ _ = _
  rw [selF_append, selF_nil _ _ _ (fun q hq => by have := run_bounds ts0 0 a q hq; omega), List.nil_append, selF_all, run_evs]
  intro q hq
  have := run_bounds _ _ p q hq
  rw [List.length_append]
  omega
/-- The error stays. -/
theorem end_err {a : List UInt8} (h : (endT ts0 a).err ≠ 0) (p : List UInt8) : endT ts0 (a ++ p) = endT ts0 a := by
  rw [endT_app, endT_stop h]

/-! What the document's Read keeps. -/
theorem run_snd (s : Ts) (n : Nat) (d : List UInt8) : (run s n d).2 = endT s d := run_end s n d
/-- One byte more, of which nothing comes. -/
theorem run_quiet {s s' : Ts} {c : UInt8} (h : s.err = 0) (hs : step s c = (s', none)) (n : Nat) (d : List UInt8) : run s n (c :: d) = run s' (n + 1) d := by
  rw [run_cons (by simp [h]), hs]
  rfl
theorem run_gives {s s' : Ts} {c : UInt8} {p : Tl} (h : s.err = 0) (hs : step s c = (s', some p)) (n : Nat) (d : List UInt8) : run s n (c :: d) = ((p, n + 1) :: (run s' (n + 1) d).1, (run s' (n + 1) d).2) := by
  rw [run_cons (by simp [h]), hs]
  rfl
end Go.Proofs.Ytcfhpoigfkljpaa
