/- A terminal in memory, what a Feed answers, what a call may write. Plain lemmas. -/
import Derived.Test.YtbkaabimafipoaaPtp
import Derived.Test.YtbkaabimafipoaaStr
namespace Go.Proofs.Ytbkaabimafipoaa
open Go.ChangeShapes Go.WideShapes Go.RowKit

def sb (l : List UInt8) : ByteArray := ⟨l.toArray⟩
section
variable {w w' w2 : World} {base b2 p t : Nat} {v v' v2 sv sv' lv lv' : Value} {s s' : Tm} {sh sh' : List UInt8} {ls ls' : List (List UInt8)} {S : Nat → Prop} {e : TypeId} {A : Option Addr} {n cap : Nat} {l : List UInt8}
/-- Cut at its end a row stays the call's own. -/
theorem OwnB.cutK (h : OwnB w base e (.slice A n cap) l) {k : Nat} (hk : k ≤ l.length) : OwnB w base e (.slice A k cap) (l.take k) := by
  rcases h.2 with ⟨hv, hl⟩ | ⟨g, cap', cur, hv, hb, hg, hc, hm, hz, ht⟩
  · injection hv with h1 h2 h3
    subst h1 h3
    have : k = 0 := by omega
    subst this
    exact OwnB.nil_ w base e
  · injection hv with h1 h2 h3
    subst h1 h3
    have hkl : (l.take k).length = k := by rw [List.length_take]; omega
    refine ⟨by rw [bcells_length, Nat.mul_one], .inr ⟨g, cap, cur, by rw [hkl], hb, hg, by rw [hkl]; omega, hm, hz, ?_⟩⟩
    have hb2 : bcells (l.take k) = (bcells l).take k := by simp [bcells]
    rw [hb2, ← ht, hkl, Nat.mul_one, List.take_take]
    congr 1
    omega
theorem OwnS.mod {ss : List ByteArray} (h : OwnS w base e v ss) (k : Mod S w w') (hn : ∀ g, v.ownBlock = some g → ¬ S g) : OwnS w' base e v ss := OwnR.mod h k hn

/-- What comes of a row lies in the row's block, or in a new one. -/
def Nw (w : World) (v v' : Value) : Prop := ∀ g, v'.ownBlock = some g → v.ownBlock = some g ∨ w.heap.size ≤ g
theorem Nw.refl (w : World) (v : Value) : Nw w v v := fun _ h => .inl h
theorem Nw.of (h : v'.ownBlock = v.ownBlock ∨ v'.ownBlock = some n) (hn : w.heap.size ≤ n) : Nw w v v' := fun g hg => by
  rcases h with h | h
  · exact .inl (h ▸ hg)
  · rw [h] at hg; injection hg with hg; subst hg; exact .inr hn
theorem Nw.trans (h : Nw w v v') (k : Nw w' v' v2) (hs : w.heap.size ≤ w'.heap.size) : Nw w v v2 := fun g hg => by
  rcases k g hg with k | k
  · exact h g k
  · exact .inr (Nat.le_trans hs k)
theorem Nw.nil_ (w : World) (v : Value) (n cap : Nat) : Nw w v (.slice none n cap) := fun g hg => by simp [Value.ownBlock] at hg
theorem Nw.cut {n' : Nat} (w : World) (A : Option Addr) (n c : Nat) : Nw w (.slice A n c) (.slice A n' c) := fun g hg => by
  rcases A with _ | a
  · simp [Value.ownBlock] at hg
  · exact .inl hg

/-- The Pty at p. -/
def PT (w : World) (base p : Nat) (v : Value) (s : Tm) : Prop := base ≤ p ∧ CB w p 42 [v, .int .i64 (s.stops : Int), .bool s.ret] ∧ OwnB w base 5 v s.line
/-- What a Feed answers, at t. -/
def TD (w : World) (base t : Nat) (sv lv : Value) (sh : List UInt8) (ls : List (List UInt8)) : Prop := base ≤ t ∧ CB w t 44 [sv, lv] ∧ OwnB w base 5 sv sh ∧ OwnS w base 9 lv (ls.map sb)
theorem PT.lt (h : PT w base p v s) : base ≤ p ∧ p < w.heap.size := ⟨h.1, h.2.1.lt⟩
theorem PT.vlt (h : PT w base p v s) : ∀ g, v.ownBlock = some g → base ≤ g ∧ g < w.heap.size ∧ g ≠ p := fun g hg =>
  ⟨(h.2.2.lt g hg).1, (h.2.2.lt g hg).2, fun e => by subst e; exact h.2.2.ne_cells h.2.1 (by decide) hg⟩
theorem PT.mod (h : PT w base p v s) (k : Mod S w w') (hp : ¬ S p) (hv : ∀ g, v.ownBlock = some g → ¬ S g) : PT w' base p v s := ⟨h.1, h.2.1.mod k hp, h.2.2.mod k hv⟩
theorem PT.made (h : PT w base p v s) (hg : w.grownBy w' none) : PT w' base p v s := h.mod (Mod.made (S := fun _ => False) hg) (fun h => h) (fun _ _ h => h)
theorem OwnS.ne_cells {ss : List ByteArray} (h : OwnS w base e v ss) {g : Nat} {cs : List Value} {t' : TypeId} (hc : CB w g t' cs) (hne : e ≠ t') : v.ownBlock ≠ some g := by
  rcases h.2 with ⟨rfl, _⟩ | ⟨g', _, _, rfl, _, hg', _⟩
  · simp [Value.ownBlock]
  · intro he
    have : g' = g := by simpa [Value.ownBlock] using he
    subst this
    rw [show w.heap[g']? = _ from hc] at hg'
    injection hg' with hg'
    injection hg' with _ ht
    exact hne ht.symm
theorem own_nes {ss : List ByteArray} {b b' : Nat} (h : OwnB w b 5 v l) (h' : OwnS w b' 9 v2 ss) : ∀ g, v.ownBlock = some g → v2.ownBlock ≠ some g := fun g hg e => by
  rcases h'.2 with ⟨rfl, _⟩ | ⟨g', _, _, rfl, _, hg', _⟩
  · simp [Value.ownBlock] at e
  · have : g' = g := by simpa [Value.ownBlock] using e
    subst this
    rcases h.2 with ⟨rfl, _⟩ | ⟨g2, _, _, rfl, _, hg2, _⟩
    · simp [Value.ownBlock] at hg
    · have : g2 = g' := by simpa [Value.ownBlock] using hg
      subst this
      rw [hg'] at hg2
      injection hg2 with hg2
      injection hg2 with _ ht
      exact absurd ht (by decide)

/-- A Pty and what its Feed answers. -/
structure PX (w : World) (base b2 p t : Nat) (v sv lv : Value) (s : Tm) (sh : List UInt8) (ls : List (List UInt8)) : Prop where
  pt : PT w base p v s
  td : TD w b2 t sv lv sh ls
  ap : ∀ g, v.ownBlock = some g → sv.ownBlock ≠ some g
/-- What may be written. -/
def pxS (p t : Nat) (v sv lv : Value) (k : Nat) : Prop := k = p ∨ k = t ∨ v.ownBlock = some k ∨ sv.ownBlock = some k ∨ lv.ownBlock = some k
/-- What a call comes to, the rows named. -/
def PD (w w' : World) (base b2 p t : Nat) (v sv lv v' sv' lv' : Value) (s' : Tm) (sh' : List UInt8) (ls' : List (List UInt8)) : Prop :=
  PX w' base b2 p t v' sv' lv' s' sh' ls' ∧ Mod (pxS p t v sv lv) w w' ∧ Nw w v v' ∧ Nw w sv sv' ∧ Nw w lv lv'
/-- What a call comes to. -/
def PR (w w' : World) (base b2 p t : Nat) (v sv lv : Value) (s' : Tm) (sh' : List UInt8) (ls' : List (List UInt8)) : Prop :=
  ∃ v' sv' lv', PX w' base b2 p t v' sv' lv' s' sh' ls' ∧ Mod (pxS p t v sv lv) w w' ∧ Nw w v v' ∧ Nw w sv sv' ∧ Nw w lv lv'
theorem PX.lts (h : PX w base b2 p t v sv lv s sh ls) : p < w.heap.size ∧ t < w.heap.size := ⟨h.pt.lt.2, h.td.2.1.lt⟩
theorem PX.ne (h : PX w base b2 p t v sv lv s sh ls) : p ≠ t := fun e => by
  subst e
  have h1 := h.pt.2.1
  have h2 := h.td.2.1
  rw [CB] at h1 h2
  rw [h1] at h2
  injection h2 with h2
  injection h2 with _ h2
  exact absurd h2 (by decide)
theorem PX.refl (h : PX w base b2 p t v sv lv s sh ls) : PR w w base b2 p t v sv lv s sh ls := ⟨v, sv, lv, h, Mod.refl _ _, Nw.refl _ _, Nw.refl _ _, Nw.refl _ _⟩
theorem PD.next {v1 sv1 lv1 : Value} (h : PD w w' base b2 p t v sv lv v1 sv1 lv1 s sh ls) (k : PR w' w2 base b2 p t v1 sv1 lv1 s' sh' ls') : PR w w2 base b2 p t v sv lv s' sh' ls' := by
  obtain ⟨hx, hm, n1, n2, n3⟩ := h
  obtain ⟨v2, sv2, lv2, hx2, hm2, m1, m2, m3⟩ := k
  refine ⟨v2, sv2, lv2, hx2, hm.next hm2 (fun i hi hs => ?_), n1.trans m1 hm.size, n2.trans m2 hm.size, n3.trans m3 hm.size⟩
  rcases hs with hs | hs | hs | hs | hs
  · exact .inl hs
  · exact .inr (.inl hs)
  · rcases n1 i hs with h | h
    · exact .inr (.inr (.inl h))
    · omega
  · rcases n2 i hs with h | h
    · exact .inr (.inr (.inr (.inl h)))
    · omega
  · rcases n3 i hs with h | h
    · exact .inr (.inr (.inr (.inr h)))
    · omega
theorem PR.trans (h : PR w w' base b2 p t v sv lv s sh ls) (k : ∀ v1 sv1 lv1, PX w' base b2 p t v1 sv1 lv1 s sh ls → PR w' w2 base b2 p t v1 sv1 lv1 s' sh' ls') : PR w w2 base b2 p t v sv lv s' sh' ls' := by
  obtain ⟨v1, sv1, lv1, h1⟩ := h
  exact PD.next h1 (k v1 sv1 lv1 h1.1)
theorem PX.mod (h : PX w base b2 p t v sv lv s sh ls) (k : Mod S w w') (hs : ∀ i, pxS p t v sv lv i → ¬ S i) : PX w' base b2 p t v sv lv s sh ls :=
  ⟨h.pt.mod k (hs _ (.inl rfl)) (fun _ hg => hs _ (.inr (.inr (.inl hg)))), ⟨h.td.1, h.td.2.1.mod k (hs _ (.inr (.inl rfl))), h.td.2.2.1.mod k (fun _ hg => hs _ (.inr (.inr (.inr (.inl hg))))), h.td.2.2.2.mod k (fun _ hg => hs _ (.inr (.inr (.inr (.inr hg)))))⟩, h.ap⟩
theorem PX.made (h : PX w base b2 p t v sv lv s sh ls) (hg : w.grownBy w' none) : PX w' base b2 p t v sv lv s sh ls := h.mod (Mod.made (S := fun _ => False) hg) (fun _ _ h => h)
theorem PX.prMade (h : PX w base b2 p t v sv lv s sh ls) (hg : w.grownBy w' none) : PR w w' base b2 p t v sv lv s sh ls := ⟨v, sv, lv, h.made hg, Mod.made hg, Nw.refl _ _, Nw.refl _ _, Nw.refl _ _⟩
/-- The Pty's cells, or its row, are written. -/
theorem PX.setPD (h : PX w base b2 p t v sv lv s sh ls) (k : Mod (fun i => i = p ∨ v.ownBlock = some i) w w') (hn : PT w' base p v' s') (hw : Nw w v v') : PD w w' base b2 p t v sv lv v' sv lv s' sh ls := by
  have hne := h.ne
  refine ⟨⟨hn, ⟨h.td.1, h.td.2.1.mod k (fun e => ?_), h.td.2.2.1.mod k (fun g hg e => ?_), h.td.2.2.2.mod k (fun g hg e => ?_)⟩, fun g hg e => ?_⟩, k.mono (fun i _ hi => hi.elim .inl fun e => .inr (.inr (.inl e))), hw, Nw.refl _ _, Nw.refl _ _⟩
  · rcases e with e | e
    · exact hne e.symm
    · exact h.pt.2.2.ne_cells h.td.2.1 (by decide) e
  · rcases e with e | e
    · subst e; exact h.td.2.2.1.ne_cells h.pt.2.1 (by decide) hg
    · exact h.ap g e hg
  · rcases e with e | e
    · subst e; exact h.td.2.2.2.ne_cells h.pt.2.1 (by decide) hg
    · exact own_nes h.pt.2.2 h.td.2.2.2 g e hg
  · rcases hw g hg with h1 | h1
    · exact h.ap g h1 e
    · have := (h.td.2.2.1.lt g e).2; omega
/-- What is told, or its rows, are written. -/
theorem PX.setTD (h : PX w base b2 p t v sv lv s sh ls) (k : Mod (fun i => i = t ∨ sv.ownBlock = some i ∨ lv.ownBlock = some i) w w') (hn : TD w' b2 t sv' lv' sh' ls') (hw : Nw w sv sv') (hw2 : Nw w lv lv') : PD w w' base b2 p t v sv lv v sv' lv' s sh' ls' := by
  have hne := h.ne
  refine ⟨⟨h.pt.mod k (fun e => ?_) (fun g hg e => ?_), hn, fun g hg e => ?_⟩, k.mono (fun i _ hi => .inr (hi.elim .inl fun e => .inr (.inr e))), Nw.refl _ _, hw, hw2⟩
  · rcases e with e | e | e
    · exact hne e
    · exact h.td.2.2.1.ne_cells h.pt.2.1 (by decide) e
    · exact h.td.2.2.2.ne_cells h.pt.2.1 (by decide) e
  · rcases e with e | e | e
    · subst e; exact h.pt.2.2.ne_cells h.td.2.1 (by decide) hg
    · exact h.ap g hg e
    · exact own_nes h.pt.2.2 h.td.2.2.2 g hg e
  · rcases hw g e with h1 | h1
    · exact h.ap g hg h1
    · have := (h.pt.vlt g hg).2.1; omega
theorem PX.setP (h : PX w base b2 p t v sv lv s sh ls) (k : Mod (fun i => i = p ∨ v.ownBlock = some i) w w') (hn : PT w' base p v' s') (hw : Nw w v v') : PR w w' base b2 p t v sv lv s' sh ls := ⟨_, _, _, h.setPD k hn hw⟩
theorem PX.setT (h : PX w base b2 p t v sv lv s sh ls) (k : Mod (fun i => i = t ∨ sv.ownBlock = some i ∨ lv.ownBlock = some i) w w') (hn : TD w' b2 t sv' lv' sh' ls') (hw : Nw w sv sv') (hw2 : Nw w lv lv') : PR w w' base b2 p t v sv lv s sh' ls' := ⟨_, _, _, h.setTD k hn hw hw2⟩
/-- The Pty's cells are written, its row is as it was, or nil. -/
theorem PX.cells (h : PX w base b2 p t v sv lv s sh ls) (hc : CB w' p 42 [v', .int .i64 (s'.stops : Int), .bool s'.ret]) (g : w.grownBy w' (some p)) (hv : (v' = v ∧ s'.line = s.line) ∨ (v' = .slice none 0 0 ∧ s'.line = [])) : PD w w' base b2 p t v sv lv v' sv lv s' sh ls := by
  refine h.setPD ((Mod.of_grown g).mono (fun k _ hk => .inl (by injection hk))) ⟨h.pt.1, hc, ?_⟩ ?_
  · rcases hv with ⟨rfl, e⟩ | ⟨rfl, e⟩
    · rw [e]
      exact h.pt.2.2.mod (Mod.of_grown g) (fun g' hg e => by injection e with e; subst e; exact h.pt.2.2.ne_cells h.pt.2.1 (by decide) hg)
    · rw [e]
      exact OwnB.nil_ _ _ _
  · rcases hv with ⟨rfl, -⟩ | ⟨rfl, -⟩
    · exact Nw.refl _ _
    · exact Nw.nil_ _ _ _ _
/-- A line is told. -/
theorem PX.told (h : PX w base b2 p t v sv lv s sh ls) {w1 w3 : World} {lv2 : Value} {x : List UInt8} (g1 : w.grownBy w1 none) (ho : OwnS w2 b2 9 lv2 (ls.map sb ++ [sb x])) (g2 : w1.grownBy w2 lv.ownBlock) (ha : lv2.ownBlock = lv.ownBlock ∨ lv2.ownBlock = some w1.heap.size)
    (hc : CB w3 t 44 [sv, lv2]) (g3 : w2.grownBy w3 (some t)) : PD w w3 base b2 p t v sv lv v sv lv2 s sh (ls ++ [x]) := by
  have hlt : ∀ g, lv.ownBlock = some g → g < w.heap.size := fun g hg => (World.ownsRow.lt h.td.2.2.2 g hg).2
  have m : Mod (fun i => i = t ∨ sv.ownBlock = some i ∨ lv.ownBlock = some i) w w3 :=
    ((Mod.made g1).grown g2 (fun z hz _ => .inr (.inr hz))).grown g3 (fun z hz _ => .inl (by injection hz with hz; exact hz.symm))
  have hw : Nw w lv lv2 := Nw.of ha g1.size
  have ht2 : CB w2 t 44 [sv, lv] := (h.td.2.1.kept g1).mod (Mod.of_grown g2) (fun e => h.td.2.2.2.ne_cells h.td.2.1 (by decide) e.symm)
  refine h.setTD m ⟨h.td.1, hc, ?_, ?_⟩ (Nw.refl _ _) hw
  · refine ((OwnB.none_ h.td.2.2.1 g1).mod (Mod.of_grown g2) (fun g hg e => own_nes h.td.2.2.1 h.td.2.2.2 g hg e.symm)).mod (Mod.of_grown g3) (fun g hg e => ?_)
    injection e with e
    subst e
    exact h.td.2.2.1.ne_cells h.td.2.1 (by decide) hg
  · rw [List.map_append]
    refine ho.mod (Mod.of_grown g3) (fun g hg e => ?_)
    injection e with e
    subst e
    exact ho.ne_cells ht2 (by decide) hg
end
end Go.Proofs.Ytbkaabimafipoaa
