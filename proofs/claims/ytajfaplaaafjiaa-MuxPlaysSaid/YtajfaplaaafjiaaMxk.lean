/- What a Mux lets go, and the frames that are gathered. Plain lemmas. -/
import Derived.Test.YtajfaplaaafjiaaMxj
namespace Go.Proofs.Ytajfaplaaafjiaa
open Go.RowKit

/-- What a side of a channel keeps within. -/
structure Lim (c : Ch) : Prop where
  ws : c.waits.length ≤ 4096
  cr : c.credit ≤ 1024
  rm : c.came.length + c.room + c.read = 1024
def sendK (c : Ch) : Nat := min (min c.credit 512) c.waits.length
def sendsF : Nat → Ch → List (List UInt8) × Ch
  | 0, c => ([], c)
  | f + 1, c => if mayS c = true then (c.waits.take (sendK c) :: (sendsF f (chSend c (sendK c))).1, (sendsF f (chSend c (sendK c))).2) else ([], c)
def sends (c : Ch) : List (List UInt8) × Ch := sendsF c.credit c
def outC (i : Nat) (c : Ch) : List Fr × Ch :=
  ((sends c).1.map (fun b => ((i : Int), b)) ++ (if mustE (sends c).2 = true then [((4 : Int), ctlB 2 i 0)] else []) ++ (if 0 < (sends c).2.read then [((4 : Int), ctlB 1 i (sends c).2.read)] else []),
   let c2 := if mustE (sends c).2 = true then chTold (sends c).2 else (sends c).2
   if 0 < (sends c).2.read then chGrant c2 else c2)
def outM : Nat → (Nat → Ch) → List Fr × (Nat → Ch)
  | 0, C => ([], C)
  | k + 1, C => ((outM k C).1 ++ (outC k ((outM k C).2 k)).1, upd (outM k C).2 k (outC k ((outM k C).2 k)).2)

theorem mayS_iff (c : Ch) : mayS c = true ↔ 0 < c.waits.length ∧ 0 < c.credit := by unfold mayS; exact decide_eq_true_iff
theorem sendsF_no {c : Ch} (h : ¬ mayS c = true) : ∀ f, sendsF f c = ([], c)
  | 0 => rfl
  | f + 1 => by rw [sendsF, if_neg h]
theorem sendsF_yes {c : Ch} (h : mayS c = true) (f : Nat) : sendsF (f + 1) c = (c.waits.take (sendK c) :: (sendsF f (chSend c (sendK c))).1, (sendsF f (chSend c (sendK c))).2) := by rw [sendsF, if_pos h]
theorem Lim.send {c : Ch} (h : Lim c) (k : Nat) : Lim (chSend c k) := ⟨by have := h.ws; simp only [chSend, List.length_drop]; omega, by have := h.cr; simp only [chSend]; omega, h.rm⟩
theorem Lim.told {c : Ch} (h : Lim c) : Lim (chTold c) := ⟨h.ws, h.cr, h.rm⟩
theorem Lim.grant {c : Ch} (h : Lim c) : Lim (chGrant c) := ⟨h.ws, h.cr, by have := h.rm; simp only [chGrant]; omega⟩
theorem Lim.sendsF_ : ∀ (f : Nat) {c : Ch}, Lim c → Lim (sendsF f c).2
  | 0, _, h => h
  | f + 1, c, h => by
    rw [sendsF]
    split
    · exact Lim.sendsF_ f (h.send _)
    · exact h
theorem Lim.out {c : Ch} (h : Lim c) (i : Nat) : Lim (outC i c).2 := by
  have h1 : Lim (sends c).2 := Lim.sendsF_ _ h
  have h2 : Lim (if mustE (sends c).2 = true then chTold (sends c).2 else (sends c).2) := by
    split
    · exact h1.told
    · exact h1
  unfold outC
  dsimp only
  split
  · exact h2.grant
  · exact h2
theorem Lim.upd_ {C : Nat → Ch} (h : ∀ i, i < 4 → Lim (C i)) {k : Nat} {c : Ch} (hc : Lim c) : ∀ i, i < 4 → Lim (upd C k c i) := by
  intro i hi
  unfold upd
  split
  · exact hc
  · exact h i hi
theorem Lim.outM_ {C : Nat → Ch} (h : ∀ i, i < 4 → Lim (C i)) : ∀ k, k ≤ 4 → ∀ i, i < 4 → Lim ((outM k C).2 i)
  | 0, _ => h
  | k + 1, hk => Lim.upd_ (Lim.outM_ h k (by omega)) ((Lim.outM_ h k (by omega) k (by omega)).out k)
theorem sendsF_len : ∀ (f : Nat) (c : Ch), (sendsF f c).1.length ≤ f
  | 0, _ => Nat.le_refl _
  | f + 1, c => by
    rw [sendsF]
    split
    · have := sendsF_len f (chSend c (sendK c))
      simp only [List.length_cons]
      omega
    · simp
theorem outC_len {c : Ch} (h : Lim c) (i : Nat) : (outC i c).1.length ≤ 1026 := by
  have h1 := sendsF_len c.credit c
  have h2 := h.cr
  unfold outC sends
  simp only [List.length_append, List.length_map]
  have h3 : (if mustE (sendsF c.credit c).2 = true then [((4 : Int), ctlB 2 i 0)] else []).length ≤ 1 := by split <;> simp
  have h4 : (if 0 < (sendsF c.credit c).2.read then [((4 : Int), ctlB 1 i (sendsF c.credit c).2.read)] else []).length ≤ 1 := by split <;> simp
  omega
theorem outM_len {C : Nat → Ch} (h : ∀ i, i < 4 → Lim (C i)) : ∀ k, k ≤ 4 → (outM k C).1.length ≤ 1026 * k
  | 0, _ => Nat.le_refl _
  | k + 1, hk => by
    have h1 := outM_len h k (by omega)
    have h2 := outC_len (Lim.outM_ h k (by omega) k (by omega)) k
    rw [outM, List.length_append]
    omega
theorem sendsF_keep : ∀ (f : Nat) (c : Ch), (sendsF f c).2.read = c.read ∧ (sendsF f c).2.room = c.room
  | 0, _ => ⟨rfl, rfl⟩
  | f + 1, c => by
    rw [sendsF]
    split
    · exact sendsF_keep f (chSend c (sendK c))
    · exact ⟨rfl, rfl⟩
theorem upd_self {α : Type} (f : Nat → α) (i : Nat) : upd f i (f i) = f := by
  funext j
  unfold upd
  split
  · rename_i h; rw [h]
  · rfl
theorem upd_upd {α : Type} (f : Nat → α) (i : Nat) (a b : α) : upd (upd f i a) i b = upd f i b := by
  funext j
  unfold upd
  split <;> rfl

/-! The frames that are gathered, beside the Mux. -/
structure OI (w0 wr : World) (base m : Nat) (us0 vs0 us vs : Nat → Value) (C : Nat → Ch) (v : Value) (fs : List Fr) : Prop where
  mx : MX wr base m us vs C
  of : OwnF wr w0.heap.size (fun g => ¬ mxS m us vs g) v fs
  mg : MG w0 wr m us0 vs0 us vs
section
variable {w0 wr w1 : World} {base m i : Nat} {us0 vs0 us vs : Nat → Value} {C : Nat → Ch} {v : Value} {fs : List Fr} {u' v' : Value} {c' : Ch}
theorem OI.vne (h : OI w0 wr base m us0 vs0 us vs C v fs) {z : Nat} (hz : mxS m us vs z) : v.ownBlock ≠ some z := by
  rcases hz with rfl | ⟨j, hj, hz | hz⟩
  · exact h.of.ne_cells h.mx.cb (by decide)
  · exact h.of.ne_own (h.mx.ou j hj) hz
  · exact h.of.ne_own (h.mx.ov j hj) hz
theorem OI.made (h : OI w0 wr base m us0 vs0 us vs C v fs) (g : wr.grownBy w1 none) : OI w0 w1 base m us0 vs0 us vs C v fs := ⟨h.mx.made g, h.of.none_ g, h.mg.trans (MG.of_made m us vs g)⟩
theorem OI.step (h : OI w0 wr base m us0 vs0 us vs C v fs) (hi : i < 4) (k : SD w1 base m (8 * i) (muxC us vs C) u' v' c') (hM : Mod (sdS m (us i) (vs i)) wr w1) (nu : NewB wr (us i) u') (nv : NewB wr (vs i) v') :
    ∀ {vf : Value} (_ : vf = v), OI w0 w1 base m us0 vs0 (upd us i u') (upd vs i v') (upd C i c') vf fs := by
  intro vf hv
  subst hv
  obtain ⟨k1, k2⟩ := h.mx.step hi k hM nu nv
  refine ⟨k1, ?_, h.mg.trans k2⟩
  have h1 : OwnF wr w0.heap.size (fun g => ¬ mxS m us vs g ∧ g < wr.heap.size) vf fs := h.of.mono (fun g hg _ hlt => ⟨hg, hlt⟩)
  refine (h1.mod hM (fun g hg hs => h.vne (sdS_mxS hi hs) hg) (fun g hg _ _ hs => hg.1 (sdS_mxS hi hs))).mono ?_
  intro g hg _ _ hz
  rcases mxS_upd h.mx hi nu nv hz with hz | hz
  · exact hg.1 hz
  · have := hg.2; omega
/-- One frame more, whose body isn't the Mux's. -/
theorem OI.app (h : OI w0 wr base m us0 vs0 us vs C v fs) {x : Value} {gs : List Fr} (g : wr.grownBy w1 v.ownBlock) (of : OwnF w1 w0.heap.size (fun g => ¬ mxS m us vs g) x gs) : OI w0 w1 base m us0 vs0 us vs C x gs := by
  refine ⟨h.mx.mod (Mod.of_grown g) (fun z hz e => h.vne hz e.symm), of, h.mg.1.grown g (fun z hz hlt => ?_), h.mg.2⟩
  have := (h.of.lt z hz).1
  omega
end
end Go.Proofs.Ytajfaplaaafjiaa
