/- Telnet's stream, without memory: byte by byte. Plain lemmas. -/
import Derived.Test.YtcfhpoigfkljpaaTlx
namespace Go.Proofs.Ytcfhpoigfkljpaa

/-- All data of parts. -/
def datO (ts : List Tl) : List UInt8 := (ts.map Tl.data).flatten
def cntV (ts : List Tl) : Nat := (ts.map fun p => if p.kind = 2 then 1 else 0).sum
theorem datO_app (a b : List Tl) : datO (a ++ b) = datO a ++ datO b := by simp [datO]
theorem cntV_app (a b : List Tl) : cntV (a ++ b) = cntV a + cntV b := by simp [cntV]
theorem datO_ones (d : List UInt8) : datO (ones d) = d := by
  induction d with
  | nil => rfl
  | cons c d ih => exact congrArg (c :: ·) ih
theorem cntV_ones (d : List UInt8) : cntV (ones d) = 0 := by
  induction d with
  | nil => rfl
  | cons c d ih =>
    show 0 + cntV (ones d) = 0
    rw [ih]
theorem err_pre {s : Ts} {a b : List UInt8} (h : (endT s (a ++ b)).err = 0) : (endT s a).err = 0 := by
  by_cases he : (endT s a).err = 0
  · exact he
  · rw [endT_app, endT_stop he] at h
    exact h
theorem feed_one {s : Ts} {c : UInt8} (h : s.err = 0) (h2 : (endT s [c]).err = 0) : feedT s [c] = evs s [c] ∧ (feedT s [c]).length ≤ 1 := by
  have h3 : feedT s [c] = putF (evs s [c]) := by
    unfold feedT
    rw [if_neg]
    intro e
    exact e h2
  rw [h3, evs_one h]
  cases (step s c).2 with
  | none => exact ⟨rfl, Nat.zero_le _⟩
  | some p =>
    have : putF [p] = [p] := by
      show join [] p = [p]
      unfold join
      simp
    rw [show (some p).toList = [p] from rfl, this]
    exact ⟨rfl, Nat.le_refl _⟩
/-- The bytes of data, and of a verb behind them. -/
theorem esc_round {d : List UInt8} {v o : Int} (hd : wrE ⟨1, 0, 0, d⟩ = 0) (hv : wrE ⟨2, v, o, []⟩ = 0) :
    endT ts0 (wrF ⟨1, 0, 0, d⟩ ++ wrF ⟨2, v, o, []⟩) = ts0 ∧ datO (evs ts0 (wrF ⟨1, 0, 0, d⟩ ++ wrF ⟨2, v, o, []⟩)) = d ∧ cntV (evs ts0 (wrF ⟨1, 0, 0, d⟩ ++ wrF ⟨2, v, o, []⟩)) = 1 := by
  obtain ⟨h1, h2⟩ := wr_back hd
  obtain ⟨h3, h4⟩ := wr_back hv
  rw [if_pos rfl] at h1
  rw [if_neg (show ¬ (2 : Int) = 1 by decide)] at h3
  rw [endT_app, evs_app, h1, h2, h3, h4, datO_app, cntV_app, datO_ones, cntV_ones]
  exact ⟨rfl, by simp [datO, wrT], rfl⟩
theorem evs_snoc (l : List UInt8) (k : Nat) (h : k < l.length) :
    endT ts0 (l.take (k + 1)) = endT (endT ts0 (l.take k)) [l[k]] ∧ datO (evs ts0 (l.take (k + 1))) = datO (evs ts0 (l.take k)) ++ datO (evs (endT ts0 (l.take k)) [l[k]]) ∧ cntV (evs ts0 (l.take (k + 1))) = cntV (evs ts0 (l.take k)) + cntV (evs (endT ts0 (l.take k)) [l[k]]) := by
  rw [List.take_succ_eq_append_getElem h, endT_app, evs_app, datO_app, cntV_app]
  exact ⟨rfl, rfl, rfl⟩
theorem ok_end (l : List UInt8) : OkT (endT ts0 l) := OkT.end_ ok_ts0 l
theorem wrE_data {d : List UInt8} (h : d.length ≤ 300) : wrE ⟨1, 0, 0, d⟩ = 0 := by
  unfold wrE
  rw [if_neg (by simp), if_neg (by simp; omega)]
theorem wrE_verb {v o : Int} (h1 : 251 ≤ v ∧ v ≤ 254) (h2 : 0 ≤ o ∧ o ≤ 255) : wrE ⟨2, v, o, []⟩ = 0 := by
  unfold wrE
  rw [if_neg (by simp; omega), if_neg (by simp)]
theorem wrF_data {d : List UInt8} (h : d.length ≤ 300) : (wrF ⟨1, 0, 0, d⟩).length ≤ 605 := by
  have := wrF_length ⟨1, 0, 0, d⟩
  simp only at this
  omega
theorem wrF_verb (v o : Int) : (wrF ⟨2, v, o, []⟩).length ≤ 5 := by
  have := wrF_length ⟨2, v, o, []⟩
  simpa using this
theorem datO_len (ts : List Tl) : (datO ts).length = sumD ts := by
  simp [datO, sumD, List.length_flatten, Function.comp_def]
theorem datO_take (ts : List Tl) (k : Nat) (h : k < ts.length) : datO (ts.take (k + 1)) = datO (ts.take k) ++ ts[k].data ∧ cntV (ts.take (k + 1)) = cntV (ts.take k) + (if ts[k].kind = 2 then 1 else 0) := by
  rw [List.take_succ_eq_append_getElem h, datO_app, cntV_app]
  exact ⟨by simp [datO], by simp [cntV]⟩
theorem flat_take (ls : List (List UInt8)) (k : Nat) (h : k < ls.length) : (ls.take (k + 1)).flatten = (ls.take k).flatten ++ ls[k] := by
  rw [List.take_succ_eq_append_getElem h, List.flatten_append]
  simp
end Go.Proofs.Ytcfhpoigfkljpaa
