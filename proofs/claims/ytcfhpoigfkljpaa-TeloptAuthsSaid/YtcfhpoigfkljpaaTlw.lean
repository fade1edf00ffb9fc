/- Telnet's stream, without memory: what is written, and what comes of it. Plain lemmas. -/
import Derived.Test.YtcfhpoigfkljpaaTlp
namespace Go.Proofs.Ytcfhpoigfkljpaa

theorem evs_cons {s : Ts} (h : s.err = 0) (c : UInt8) (d : List UInt8) : evs s (c :: d) = (step s c).2.toList ++ evs (step s c).1 d := by
  rw [show c :: d = [c] ++ d from rfl, evs_app, evs_one h, endT_one h]
theorem endT_cons {s : Ts} (h : s.err = 0) (c : UInt8) (d : List UInt8) : endT s (c :: d) = endT (step s c).1 d := by
  rw [show c :: d = [c] ++ d from rfl, endT_app, endT_one h]
/-- Data, a 255 twice. -/
def escF : List UInt8 → List UInt8
  | [] => []
  | c :: d => (if c.toNat = 255 then [c, c] else [c]) ++ escF d
theorem escF_snoc (d : List UInt8) (c : UInt8) : escF (d ++ [c]) = escF d ++ (if c.toNat = 255 then [c, c] else [c]) := by
  induction d with
  | nil => simp [escF]
  | cons x d ih => simp [escF, ih, List.append_assoc]
theorem escF_take (d : List UInt8) (k : Nat) (h : k < d.length) : escF (d.take (k + 1)) = escF (d.take k) ++ (if d[k].toNat = 255 then [d[k], d[k]] else [d[k]]) := by
  rw [List.take_succ_eq_append_getElem h, escF_snoc]
theorem escF_length (d : List UInt8) : (escF d).length ≤ 2 * d.length := by
  induction d with
  | nil => simp [escF]
  | cons x d ih =>
    have : (if x.toNat = 255 then [x, x] else [x]).length ≤ 2 := by split <;> simp
    simp only [escF, List.length_append, List.length_cons]
    omega
/-- The error of a part that is written. -/
def wrE (t : Tl) : Int :=
  if t.kind < 1 ∨ 3 < t.kind ∨ (1 < t.kind ∧ (t.opt < 0 ∨ 255 < t.opt)) ∨ (t.kind = 2 ∧ (t.verb < 251 ∨ 254 < t.verb)) then 1 else if t.kind ≠ 2 ∧ 3000 < t.data.length then 23 else 0
/-- A part's bytes. -/
def wrF (t : Tl) : List UInt8 :=
  if wrE t ≠ 0 then [] else if t.kind = 2 then [255, UInt8.ofNat t.verb.toNat, UInt8.ofNat t.opt.toNat] else if t.kind = 1 then escF t.data else [255, 250, UInt8.ofNat t.opt.toNat] ++ escF t.data ++ [255, 240]
theorem wrF_length (t : Tl) : (wrF t).length ≤ 2 * t.data.length + 5 := by
  have := escF_length t.data
  unfold wrF
  repeat' split
  all_goals simp
  all_goals omega
theorem wrF_small {t : Tl} (h : wrE t = 0) : (wrF t).length ≤ 6005 := by
  have h1 := wrF_length t
  have h2 := escF_length t.data
  unfold wrF
  rw [if_neg (by simp [h])]
  split
  · simp
  · have : t.data.length ≤ 3000 := by
      rename_i hk
      unfold wrE at h
      split at h
      · exact absurd h (by decide)
      · split at h
        · exact absurd h (by decide)
        · rename_i h3
          have h4 : ¬ 3000 < t.data.length := fun e => h3 ⟨hk, e⟩
          omega
    split
    · omega
    · simp
      omega
/-- Data bytes as parts. -/
def ones (d : List UInt8) : List Tl := d.map fun c => ⟨1, 0, 0, [c]⟩
theorem run_esc (d : List UInt8) : ∀ s : Ts, s.beh = 0 → s.err = 0 → evs s (escF d) = ones d ∧ endT s (escF d) = s := by
  induction d with
  | nil => intro s _ _; exact ⟨rfl, rfl⟩
  | cons c d ih =>
    intro s h0 he
    obtain ⟨b, p, e⟩ := s
    simp only at h0 he
    subst h0 he
    have hi := ih ⟨0, p, 0⟩ rfl rfl
    show evs _ ((if c.toNat = 255 then [c, c] else [c]) ++ escF d) = _ ∧ endT _ ((if c.toNat = 255 then [c, c] else [c]) ++ escF d) = _
    by_cases hc : c.toNat = 255
    · have e1 : step ⟨0, p, 0⟩ c = (⟨1, p, 0⟩, none) := by simp [step, hc]
      have e2 : step ⟨1, p, 0⟩ c = (⟨0, p, 0⟩, some ⟨1, 0, 0, [c]⟩) := by simp [step, hc]
      have e3 : evs ⟨0, p, 0⟩ [c, c] = [⟨1, 0, 0, [c]⟩] := by
        rw [evs_cons rfl, e1, evs_one rfl, e2]
        rfl
      have e4 : endT ⟨0, p, 0⟩ [c, c] = ⟨0, p, 0⟩ := by
        rw [endT_cons rfl, e1, endT_one rfl, e2]
      rw [if_pos hc, evs_app, endT_app, e3, e4, hi.1, hi.2]
      exact ⟨rfl, rfl⟩
    · have e1 : step ⟨0, p, 0⟩ c = (⟨0, p, 0⟩, some ⟨1, 0, 0, [c]⟩) := by simp [step, hc]
      rw [if_neg hc, evs_app, endT_app, evs_one rfl, endT_one rfl, e1, hi.1, hi.2]
      exact ⟨rfl, rfl⟩
theorem run_sub (d : List UInt8) : ∀ p : Tl, p.data.length + d.length ≤ 3000 → evs ⟨4, p, 0⟩ (escF d) = [] ∧ endT ⟨4, p, 0⟩ (escF d) = ⟨4, { p with data := p.data ++ d }, 0⟩ := by
  induction d with
  | nil => intro p _; exact ⟨rfl, by rw [List.append_nil]; rfl⟩
  | cons c d ih =>
    intro p hl
    rw [List.length_cons] at hl
    have hi := ih { p with data := p.data ++ [c] } (by simp; omega)
    have ha : ∀ b, addF ⟨b, p, 0⟩ 4 c = ⟨4, { p with data := p.data ++ [c] }, 0⟩ := fun b => by unfold addF; rw [if_neg (by simp; omega)]
    show evs _ ((if c.toNat = 255 then [c, c] else [c]) ++ escF d) = _ ∧ endT _ ((if c.toNat = 255 then [c, c] else [c]) ++ escF d) = _
    have hfin : ({ p with data := p.data ++ [c] ++ d } : Tl) = { p with data := p.data ++ c :: d } := by simp
    by_cases hc : c.toNat = 255
    · have e1 : step ⟨4, p, 0⟩ c = (⟨5, p, 0⟩, none) := by simp [step, hc]
      have e2 : step ⟨5, p, 0⟩ c = (⟨4, { p with data := p.data ++ [c] }, 0⟩, none) := by simp [step, hc, ha]
      have e3 : evs ⟨4, p, 0⟩ [c, c] = [] := by
        rw [evs_cons rfl, e1, evs_one rfl, e2]
        rfl
      have e4 : endT ⟨4, p, 0⟩ [c, c] = ⟨4, { p with data := p.data ++ [c] }, 0⟩ := by
        rw [endT_cons rfl, e1, endT_one rfl, e2]
      rw [if_pos hc, evs_app, endT_app, e3, e4, hi.1, hi.2]
      exact ⟨rfl, by rw [← hfin]⟩
    · have e1 : step ⟨4, p, 0⟩ c = (⟨4, { p with data := p.data ++ [c] }, 0⟩, none) := by simp [step, hc, ha]
      rw [if_neg hc, evs_app, endT_app, evs_one rfl, endT_one rfl, e1, hi.1, hi.2]
      exact ⟨rfl, by rw [← hfin]⟩
theorem join_ones (d : List UInt8) : ∀ (X : List Tl) (q : Tl), q.kind = 1 → (ones d).foldl join (X ++ [q]) = X ++ [{ q with data := q.data ++ d }] := by
  induction d with
  | nil => intro X q _; simp [ones]
  | cons c d ih =>
    intro X q hq
    have h1 : join (X ++ [q]) ⟨1, 0, 0, [c]⟩ = X ++ [{ q with data := q.data ++ [c] }] := by unfold join; simp [hq]
    show (ones d).foldl join (join (X ++ [q]) ⟨1, 0, 0, [c]⟩) = _
    rw [h1, ih X { q with data := q.data ++ [c] } hq]
    simp
theorem putF_ones (d : List UInt8) : putF (ones d) = if d = [] then [] else [⟨1, 0, 0, d⟩] := by
  cases d with
  | nil => rfl
  | cons c d =>
    rw [if_neg (by simp)]
    show (ones d).foldl join (join [] ⟨1, 0, 0, [c]⟩) = _
    have h1 : join [] (⟨1, 0, 0, [c]⟩ : Tl) = [] ++ [⟨1, 0, 0, [c]⟩] := by unfold join; simp
    rw [h1, join_ones _ _ _ rfl]
    simp
/-- A part, its other fields nought. -/
def wrT (t : Tl) : Tl := if t.kind = 2 then ⟨2, t.verb, t.opt, []⟩ else if t.kind = 3 then ⟨3, 0, t.opt, t.data⟩ else ⟨t.kind, 0, 0, t.data⟩
theorem u8n {x : Int} (h0 : 0 ≤ x) (h1 : x ≤ 255) : (((UInt8.ofNat x.toNat).toNat : Nat) : Int) = x := by
  rw [UInt8.toNat_ofNat']
  omega
/-- What is written comes back. -/
theorem wr_back {t : Tl} (h : wrE t = 0) : evs ts0 (wrF t) = (if t.kind = 1 then ones t.data else [wrT t]) ∧ endT ts0 (wrF t) = ts0 := by
  have hw : wrF t = if t.kind = 2 then [255, UInt8.ofNat t.verb.toNat, UInt8.ofNat t.opt.toNat] else if t.kind = 1 then escF t.data else [255, 250, UInt8.ofNat t.opt.toNat] ++ escF t.data ++ [255, 240] := by
    unfold wrF
    rw [if_neg (by simp [h])]
  have hk : ¬ (t.kind < 1 ∨ 3 < t.kind ∨ (1 < t.kind ∧ (t.opt < 0 ∨ 255 < t.opt)) ∨ (t.kind = 2 ∧ (t.verb < 251 ∨ 254 < t.verb))) ∧ ¬ (t.kind ≠ 2 ∧ 3000 < t.data.length) := by
    unfold wrE at h
    split at h
    · exact absurd h (by decide)
    · split at h
      · exact absurd h (by decide)
      · exact ⟨by assumption, by assumption⟩
  obtain ⟨h1, h2⟩ := hk
  obtain ⟨k, v, o, d⟩ := t
  simp only at h1 h2 hw ⊢
  have s1 : step ts0 255 = (⟨1, tl0, 0⟩, none) := by decide
  by_cases k2 : k = 2
  · subst k2
    have hv : ((UInt8.ofNat v.toNat).toNat : Int) = v := u8n (by omega) (by omega)
    have ho : ((UInt8.ofNat o.toNat).toNat : Int) = o := u8n (by omega) (by omega)
    have s2 : step ⟨1, tl0, 0⟩ (UInt8.ofNat v.toNat) = (⟨2, ⟨2, v, 0, []⟩, 0⟩, none) := by
      unfold step
      simp only [Nat.one_ne_zero, if_false, if_true]
      rw [if_neg (by omega), if_pos (by omega), hv]
    have s3 : step ⟨2, ⟨2, v, 0, []⟩, 0⟩ (UInt8.ofNat o.toNat) = (ts0, some ⟨2, v, o, []⟩) := by
      show (_, _) = _
      rw [ho]
      rfl
    rw [hw, if_pos rfl]
    rw [evs_cons rfl, s1, evs_cons rfl, s2, evs_cons rfl, s3, endT_cons rfl, s1, endT_cons rfl, s2, endT_cons rfl, s3]
    exact ⟨rfl, rfl⟩
  by_cases k1 : k = 1
  · subst k1
    rw [hw, if_neg (by decide), if_pos rfl]
    exact run_esc d ts0 rfl rfl
  · have k3 : k = 3 := by omega
    subst k3
    have ho : ((UInt8.ofNat o.toNat).toNat : Int) = o := u8n (by omega) (by omega)
    have s2 : step ⟨1, tl0, 0⟩ 250 = (⟨3, ⟨3, 0, 0, []⟩, 0⟩, none) := by decide
    have s3 : step ⟨3, ⟨3, 0, 0, []⟩, 0⟩ (UInt8.ofNat o.toNat) = (⟨4, ⟨3, 0, o, []⟩, 0⟩, none) := by
      show (_, _) = _
      rw [ho]
    obtain ⟨r1, r2⟩ := run_sub d ⟨3, 0, o, []⟩ (by simp; omega)
    rw [List.nil_append] at r2
    have s4 : step ⟨4, ⟨3, 0, o, d⟩, 0⟩ 255 = (⟨5, ⟨3, 0, o, d⟩, 0⟩, none) := rfl
    have s5 : step ⟨5, ⟨3, 0, o, d⟩, 0⟩ 240 = (ts0, some ⟨3, 0, o, d⟩) := rfl
    rw [hw, if_neg (by decide), if_neg (by decide)]
    simp only [List.cons_append, List.nil_append]
    rw [evs_cons rfl, s1, evs_cons rfl, s2, evs_cons rfl, s3, evs_app, r1, r2, evs_cons rfl, s4, evs_cons rfl, s5, endT_cons rfl, s1, endT_cons rfl, s2, endT_cons rfl, s3, endT_app, r2, endT_cons rfl, s4, endT_cons rfl, s5]
    exact ⟨rfl, rfl⟩
end Go.Proofs.Ytcfhpoigfkljpaa
