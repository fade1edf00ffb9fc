/- A Reader and the parts that a Feed gathers; what a call comes to. Plain lemmas. -/
import Derived.Test.YtcfhpoigfkljpaaTlb
namespace Go.Proofs.Ytcfhpoigfkljpaa
open Go.ChangeShapes Go.WideShapes Go.RowKit

/-- Two rows in blocks of their own. -/
def Ap (u u' : Value) : Prop := ∀ g, u.ownBlock = some g → u'.ownBlock ≠ some g
theorem Ap.symm {u u' : Value} (h : Ap u u') : Ap u' u := fun g hg e => h g e hg
theorem ap_nil (u : Value) (n c : Nat) : Ap u (.slice none n c) := fun _ _ e => by simp [Value.ownBlock] at e
/-- What comes of rows lies in their blocks, or in new ones. -/
def NwL (w : World) (vs vs' : List Value) : Prop := ∀ u' ∈ vs', ∀ g, u'.ownBlock = some g → (∃ u ∈ vs, u.ownBlock = some g) ∨ w.heap.size ≤ g
theorem NwL.refl (w : World) (vs : List Value) : NwL w vs vs := fun u' hu _ hg => .inl ⟨u', hu, hg⟩
/-- What a row of parts writes: its block, and those of its data. -/
def rowS (v : Value) (vs : List Value) (k : Nat) : Prop := v.ownBlock = some k ∨ ∃ u ∈ vs, u.ownBlock = some k
/-- What withData comes to. -/
def WR (w w' : World) (b2 base : Nat) (vs : List Value) (v v' : Value) (ps' : List Tl) : Prop :=
  ∃ vs', OwnP w' b2 base vs' v' ps' ∧ vs'.Pairwise Ap ∧ Mod (rowS v vs) w w' ∧ Nw w v v' ∧ NwL w vs vs'
/-- A Reader, and the parts. -/
structure TX (w : World) (b2 base r : Nat) (pv v : Value) (vs : List Value) (s : Ts) (ps : List Tl) : Prop where
  rd : RD w base r pv s
  row : OwnP w b2 base vs v ps
  ap : (pv :: vs).Pairwise Ap
def txS (r : Nat) (pv v : Value) (vs : List Value) (k : Nat) : Prop := rdS r pv k ∨ rowS v vs k
/-- What take comes to. -/
def TR (w w' : World) (b2 base r : Nat) (pv v : Value) (vs : List Value) (v' : Value) (s' : Ts) (ps' : List Tl) : Prop :=
  ∃ pv' vs', TX w' b2 base r pv' v' vs' s' ps' ∧ Mod (txS r pv v vs) w w' ∧ Nw w pv pv' ∧ Nw w v v' ∧ NwL w (pv :: vs) vs'
section
variable {w w' : World} {b2 base r : Nat} {pv v pv' v' : Value} {vs vs' : List Value} {s s' : Ts} {ps ps' : List Tl}
theorem TX.rowNe (h : TX w b2 base r pv v vs s ps) : v.ownBlock ≠ some r ∧ (∀ g, pv.ownBlock = some g → v.ownBlock ≠ some g) ∧ (∀ u ∈ vs, u.ownBlock ≠ some r) := by
  refine ⟨h.row.ne_cells h.rd.2.1 (by decide), fun g hg => h.row.ne_own h.rd.2.2 hg, fun u hu e => ?_⟩
  obtain ⟨i, hi⟩ := List.mem_iff_getElem?.1 hu
  have hlt := (List.getElem?_eq_some_iff.1 hi).1
  exact (h.row.dat i _ u (List.getElem?_eq_getElem (by have := h.row.len; omega)) hi).ne_cells h.rd.2.1 (by decide) e
/-- The Reader alone is written. -/
theorem TX.rdX (h : TX w b2 base r pv v vs s ps) (hr : RD w' base r pv' s') (hm : Mod (rdS r pv) w w') (hn : Nw w pv pv') : TX w' b2 base r pv' v vs s' ps := by
  obtain ⟨n1, n2, n3⟩ := h.rowNe
  have hap := List.pairwise_cons.1 h.ap
  refine ⟨hr, h.row.mod hm (fun g hg e => ?_) (fun u hu g hg e => ?_), ?_⟩
  · rcases e with e | e
    · subst e; exact n1 hg
    · exact n2 g e hg
  · rcases e with e | e
    · subst e; exact n3 u hu hg
    · exact hap.1 u hu g e hg
  · refine List.pairwise_cons.2 ⟨fun u hu g hg e => ?_, hap.2⟩
    rcases hn g hg with h1 | h1
    · exact hap.1 u hu g h1 e
    · have := (h.row.dlt u hu g e).2; omega
theorem TX.reader (h : TX w b2 base r pv v vs s ps) (hr : RD w' base r pv' s') (hm : Mod (rdS r pv) w w') (hn : Nw w pv pv') : TR w w' b2 base r pv v vs v s' ps :=
  ⟨pv', vs, h.rdX hr hm hn, hm.mono (fun _ _ e => .inl e), hn, Nw.refl _ _, fun u' hu _ hg => .inl ⟨u', List.mem_cons_of_mem _ hu, hg⟩⟩
/-- The parts alone are written. -/
theorem TX.parts (h : TX w b2 base r pv v vs s ps) (hw : WR w w' b2 base vs v v' ps') : TR w w' b2 base r pv v vs v' s ps' := by
  obtain ⟨n1, n2, n3⟩ := h.rowNe
  have hap := List.pairwise_cons.1 h.ap
  obtain ⟨vs', ho, hp, hm, hn, hl⟩ := hw
  refine ⟨pv, vs', ⟨h.rd.mod hm (fun e => ?_) (fun g hg e => ?_), ho, List.pairwise_cons.2 ⟨fun u hu g hg e => ?_, hp⟩⟩, hm.mono (fun _ _ e => .inr e), Nw.refl _ _, hn, fun u' hu g hg => ?_⟩
  · rcases e with e | ⟨u, hu, e⟩
    · exact n1 e
    · exact n3 u hu e
  · rcases e with e | ⟨u, hu, e⟩
    · exact n2 g hg e
    · exact hap.1 u hu g hg e
  · rcases hl u hu g e with ⟨u', hu', e'⟩ | e'
    · exact hap.1 u' hu' g hg e'
    · have := (h.rd.vlt g hg).2.1; omega
  · rcases hl u' hu g hg with ⟨u, hu', e'⟩ | e'
    · exact .inl ⟨u, List.mem_cons_of_mem _ hu', e'⟩
    · exact .inr e'
theorem TX.same (h : TX w b2 base r pv v vs s ps) : TR w w b2 base r pv v vs v s ps := ⟨pv, vs, h, Mod.refl _ _, Nw.refl _ _, Nw.refl _ _, fun u' hu _ hg => .inl ⟨u', List.mem_cons_of_mem _ hu, hg⟩⟩
theorem TX.made (h : TX w b2 base r pv v vs s ps) (hg : w.grownBy w' none) : TX w' b2 base r pv v vs s ps := ⟨h.rd.made hg, h.row.none_ hg, h.ap⟩
/-- The part that is whole goes to the parts; the Reader has none then. -/
theorem TX.whole {w1 w2 : World} (h : TX w b2 base r pv v vs s ps) (h1 : w.grownBy w1 none) (ho : OwnP w2 b2 base (vs ++ [pv]) v' ps') (hg : w1.grownBy w2 v.ownBlock) (ha : v'.ownBlock = v.ownBlock ∨ v'.ownBlock = some w1.heap.size)
    (hm : w2.grownBy w' (some r)) (hc : RD w' base r (.slice none 0 0) s') : TR w w' b2 base r pv v vs v' s' ps' := by
  obtain ⟨n1, n2, n3⟩ := h.rowNe
  have hap := List.pairwise_cons.1 h.ap
  have hs := h1.size
  refine ⟨.slice none 0 0, vs ++ [pv], ⟨hc, ho.mod (Mod.of_grown hm) (fun g hg e => ?_) (fun u hu g hg e => ?_), List.pairwise_cons.2 ⟨fun _ _ _ hg => by simp [Value.ownBlock] at hg, ?_⟩⟩, ?_, Nw.nil_ _ _ _ _, Nw.of ha hs, fun u' hu g hg => ?_⟩
  · injection e with e
    subst e
    rcases ha with h2 | h2
    · exact n1 (h2 ▸ hg)
    · rw [hg] at h2; injection h2 with h2; have := h.rd.lt.2; omega
  · injection e with e
    subst e
    rcases List.mem_append.1 hu with hu | hu
    · exact n3 u hu hg
    · rw [List.mem_singleton.1 hu] at hg; exact (h.rd.vlt _ hg).2.2 rfl
  · exact List.pairwise_append.2 ⟨hap.2, List.pairwise_singleton _ _, fun u hu u' hu' => by rw [List.mem_singleton.1 hu']; exact (hap.1 u hu).symm⟩
  · exact ((Mod.made h1).grown hg (fun z hz _ => .inr (.inl hz))).grown hm (fun z hz _ => .inl (.inl (by injection hz with hz; exact hz.symm)))
  · rcases List.mem_append.1 hu with hu | hu
    · exact .inl ⟨u', List.mem_cons_of_mem _ hu, hg⟩
    · exact .inl ⟨pv, List.mem_cons_self, by rw [← List.mem_singleton.1 hu]; exact hg⟩
theorem TR.mono {w1 : World} (h : TR w1 w' b2 base r pv v vs v' s' ps') (hg : w.grownBy w1 none) : TR w w' b2 base r pv v vs v' s' ps' := by
  obtain ⟨pv', vs', h1, h2, h3, h4, h5⟩ := h
  have hs := hg.size
  refine ⟨pv', vs', h1, (Mod.made hg).next h2 (fun _ _ e => e), fun g hg => (h3 g hg).imp id (fun e => Nat.le_trans hs e), fun g hg => (h4 g hg).imp id (fun e => Nat.le_trans hs e), fun u hu g hg => (h5 u hu g hg).imp id (fun e => Nat.le_trans hs e)⟩
/-- A Reader's write, and then a call on what is then. -/
theorem TR.next {w1 : World} {pv1 : Value} (hm : Mod (rdS r pv) w w1) (hn : Nw w pv pv1) (k : TR w1 w' b2 base r pv1 v vs v' s' ps') : TR w w' b2 base r pv v vs v' s' ps' := by
  obtain ⟨pv', vs', h1, h2, h3, h4, h5⟩ := k
  have hs := hm.size
  refine ⟨pv', vs', h1, (hm.mono (fun _ _ e => .inl e)).next h2 (fun i hi e => ?_), hn.trans h3 hs, fun g hg => (h4 g hg).imp id (fun e => Nat.le_trans hs e), fun u hu g hg => ?_⟩
  · rcases e with (e | e) | e
    · exact .inl (.inl e)
    · rcases hn i e with e | e
      · exact .inl (.inr e)
      · omega
    · exact .inr e
  · rcases h5 u hu g hg with ⟨u', hu', e⟩ | e
    · rcases List.mem_cons.1 hu' with rfl | hu'
      · rcases hn g e with e | e
        · exact .inl ⟨pv, List.mem_cons_self, e⟩
        · exact .inr e
      · exact .inl ⟨u', List.mem_cons_of_mem _ hu', e⟩
    · exact .inr (Nat.le_trans hs e)
end
end Go.Proofs.Ytcfhpoigfkljpaa
