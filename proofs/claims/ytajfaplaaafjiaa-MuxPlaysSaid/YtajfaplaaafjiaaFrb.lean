/- Frames in memory; what a call may write. Plain lemmas. -/
import Derived.Test.YtajfaplaaafjiaaProg
import Derived.Test.YtajfaplaaafjiaaFrp
import Derived.Test.YtajfaplaaafjiaaInm
import Derived.Deep.Slices
import Derived.Deep.Fields
namespace Go.Proofs.Ytajfaplaaafjiaa
open Go.ChangeShapes Go.WideShapes Go.RowKit

theorem byteT : ByteT Try.prog 22 5 := ⟨Try.underlying22, Try.underlying5, by kernel_rfl⟩

/-- Blocks that were there, but for these, are as they were. -/
structure Mod (S : Nat → Prop) (w w' : World) : Prop where
  os : w'.os = w.os
  tape : w'.tape = w.tape
  output : w'.output = w.output
  size : w.heap.size ≤ w'.heap.size
  block : ∀ k, k < w.heap.size → ¬ S k → w'.heap[k]? = w.heap[k]?
section
variable {S S' : Nat → Prop} {w w' w2 : World} {base B : Nat} {e t : TypeId} {v : Value} {l : List UInt8} {A : Option Addr} {cap : Nat}
theorem Mod.refl (S : Nat → Prop) (w : World) : Mod S w w := ⟨rfl, rfl, rfl, Nat.le_refl _, fun _ _ _ => rfl⟩
theorem Mod.mono (h : Mod S w w') (hs : ∀ k, k < w.heap.size → S k → S' k) : Mod S' w w' := ⟨h.os, h.tape, h.output, h.size, fun k hk hn => h.block k hk (fun e => hn (hs k hk e))⟩
theorem Mod.next (h : Mod S w w') (k : Mod S' w' w2) (hs : ∀ i, i < w.heap.size → S' i → S i) : Mod S w w2 :=
  ⟨k.os.trans h.os, k.tape.trans h.tape, k.output.trans h.output, Nat.le_trans h.size k.size, fun i hi hn => (k.block i (Nat.lt_of_lt_of_le hi h.size) (fun e => hn (hs i hi e))).trans (h.block i hi hn)⟩
theorem Mod.of_grown {r : Option Nat} (h : w.grownBy w' r) : Mod (fun k => some k = r) w w' := ⟨h.os, h.tape, h.output, h.size, fun k hk hn => h.block k hk hn⟩
theorem Mod.made (h : w.grownBy w' none) : Mod S w w' := ⟨h.os, h.tape, h.output, h.size, fun k hk _ => h.block k hk (fun e => by cases e)⟩
theorem Mod.grown {r : Option Nat} (h : Mod S w w') (k : w'.grownBy w2 r) (hr : ∀ z, r = some z → z < w.heap.size → S z) : Mod S w w2 :=
  h.next (Mod.of_grown k) (fun i hi e => hr i e.symm hi)
theorem Mod.drew (h : Mod S w w') : Mod S w w'.drew := ⟨h.os, h.tape, h.output, h.size, h.block⟩
theorem Mod.below (h : Mod S w w') (hB : B ≤ w.heap.size) (hs : ∀ k, k < B → ¬ S k) : Below B w w' := ⟨h.os, h.tape, h.output, h.size, fun k hk => h.block k (Nat.lt_of_lt_of_le hk hB) (hs k hk)⟩
theorem Mod.none (h : Mod S w w') (hs : ∀ k, k < w.heap.size → ¬ S k) : w.grownBy w' none := ⟨h.os, h.tape, h.output, h.size, fun k hk _ => h.block k hk (hs k hk)⟩
theorem Mod.one {g : Nat} (h : Mod S w w') (hs : ∀ k, k < w.heap.size → S k → k = g) : w.grownBy w' (some g) := ⟨h.os, h.tape, h.output, h.size, fun k hk hn => h.block k hk (fun e => hn (by rw [hs k hk e]))⟩
theorem CB.mod {g : Nat} {cs : List Value} (h : CB w g t cs) (k : Mod S w w') (hn : ¬ S g) : CB w' g t cs := (k.block g h.lt hn).trans h
theorem OwnR.mod {size n : Nat} {xs : List Value} (h : w.ownsRow base e size v n xs) (k : Mod S w w') (hn : ∀ g, v.ownBlock = some g → ¬ S g) : w'.ownsRow base e size v n xs := by
  refine ⟨h.1, h.2.imp id fun ⟨g, cap, cur, hv, hb, hg, r⟩ => ⟨g, cap, cur, hv, hb, ?_, r⟩⟩
  exact (k.block g (Array.getElem?_eq_some_iff.1 hg).1 (hn g (by rw [hv]; rfl))).trans hg
theorem OwnB.mod (h : OwnB w base e v l) (k : Mod S w w') (hn : ∀ g, v.ownBlock = some g → ¬ S g) : OwnB w' base e v l := OwnR.mod h k hn
theorem RB.mod (h : RB w B A l cap) (k : Mod S w w') (hB : B ≤ w.heap.size) (hs : ∀ i, i < B → ¬ S i) : RB w' B A l cap := h.below (k.below hB hs)
theorem OwnB.none_ (h : OwnB w base e v l) (hg : w.grownBy w' none) : OwnB w' base e v l := OwnB.mod h (Mod.made (S := fun _ => False) hg) (fun _ _ h => h)
theorem OwnB.ne_cells (h : OwnB w base e v l) {g : Nat} {cs : List Value} (hc : CB w g t cs) (hne : e ≠ t) : v.ownBlock ≠ some g := by
  rcases h.2 with ⟨rfl, _⟩ | ⟨g', _, _, rfl, _, hg', _⟩
  · simp [Value.ownBlock]
  · intro he
    have : g' = g := by simpa [Value.ownBlock] using he
    subst this
    rw [show w.heap[g']? = _ from hc] at hg'
    injection hg' with hg'
    injection hg' with _ ht
    exact hne ht.symm
/-- All of it cut away: the row stays. -/
theorem OwnB.cut0 {n : Nat} (h : OwnB w base e (.slice A n cap) l) : OwnB w base e (.slice A 0 cap) [] := by
  rcases h.2 with ⟨hv, _⟩ | ⟨g, cap', cur, hv, hb, hg, hc, hm, hz, ht⟩
  · injection hv with h1 h2 h3
    subst h1 h3
    exact OwnB.nil_ w base e
  · injection hv with h1 h2 h3
    subst h1 h3
    exact ⟨rfl, .inr ⟨g, cap, cur, rfl, hb, hg, Nat.zero_le _, hm, hz, by simp [bcells]⟩⟩
end

/-! Frames. -/
/-- The slice at A reads as the frames fs, each body a slice that reads as its bytes; all in blocks below B. -/
def RF (w : World) (B : Nat) (A : Option Addr) (fs : List Fr) (cap : Nat) : Prop :=
  fs.length ≤ cap ∧ cap ≤ maxLen ∧ ((A = none ∧ cap = 0) ∨ ∃ a, A = some a ∧ ∀ k f, fs[k]? = some f → a.block < B ∧
    w.cell? (a.add (2 * k)) = some (.int .i64 f.1) ∧ ∃ V c, w.cell? (a.add (2 * k + 1)) = some (.slice V f.2.length c) ∧ RB w B V f.2 c)
section
variable {w w' : World} {B B' cap : Nat} {A : Option Addr} {fs : List Fr}
theorem RF.nil_ (w : World) (B : Nat) : RF w B none [] 0 := ⟨Nat.le_refl _, Nat.zero_le _, .inl ⟨rfl, rfl⟩⟩
theorem RF.keep (h : RF w B A fs cap) (hk : ∀ a : Addr, a.block < B → w'.cell? a = w.cell? a) : RF w' B A fs cap :=
  ⟨h.1, h.2.1, h.2.2.imp id fun ⟨a, hA, hc⟩ => ⟨a, hA, fun k f hf => by
    obtain ⟨hb, h1, V, c, h2, h3⟩ := hc k f hf
    exact ⟨hb, (hk _ (by rw [add_block]; exact hb)).trans h1, V, c, (hk _ (by rw [add_block]; exact hb)).trans h2, h3.keep hk⟩⟩⟩
theorem RF.more (h : RF w B A fs cap) (hB : B ≤ B') : RF w B' A fs cap :=
  ⟨h.1, h.2.1, h.2.2.imp id fun ⟨a, hA, hc⟩ => ⟨a, hA, fun k f hf => by
    obtain ⟨hb, h1, V, c, h2, h3⟩ := hc k f hf
    exact ⟨Nat.lt_of_lt_of_le hb hB, h1, V, c, h2, h3.more hB⟩⟩⟩
theorem RF.below (h : RF w B A fs cap) (hb : Below B w w') : RF w' B A fs cap := h.keep fun _ hlt => hb.cell hlt
theorem RF.open_ (h : RF w B A fs cap) (hp : 0 < fs.length) :
    ∃ b off, A = some ⟨b, off, none⟩ ∧ b < B ∧ ∀ k f, fs[k]? = some f → w.cell? ⟨b, off + k * 2, none⟩ = some (.int .i64 f.1) ∧
      ∃ V c, w.cell? ⟨b, off + k * 2 + 1, none⟩ = some (.slice V f.2.length c) ∧ RB w B V f.2 c := by
  rcases h.2.2 with ⟨_, h0⟩ | ⟨⟨b, off, s⟩, hA, hc⟩
  · have := h.1; omega
  · have hb := (hc 0 _ (List.getElem?_eq_getElem hp)).1
    have h0 := (hc 0 _ (List.getElem?_eq_getElem hp)).2.1
    have hs : s = none := by simpa [Addr.add] using World.cell?_spot h0
    subst hs
    refine ⟨b, off, hA, hb, fun k f hf => ?_⟩
    have := (hc k f hf).2
    rw [Addr.add_lit, Addr.add_lit, Nat.mul_comm 2 k, ← Nat.add_assoc] at this
    exact this
/-- A cut 's[k:]'. -/
theorem RF.cut (h : RF w B A fs cap) {k : Nat} (hk : k ≤ fs.length) : RF w B (if cap = k then A else A.map (·.add (k * 2))) (fs.drop k) (cap - k) := by
  obtain ⟨h1, h2, h3⟩ := h
  refine ⟨by rw [List.length_drop]; omega, by omega, ?_⟩
  rcases h3 with ⟨rfl, rfl⟩ | ⟨a, rfl, hc⟩
  · exact .inl ⟨by simp, by omega⟩
  · by_cases he : cap = k
    · have hn : fs.drop k = [] := List.drop_eq_nil_of_le (by omega)
      rw [if_pos he, hn]
      exact .inr ⟨a, rfl, fun k f hf => by simp at hf⟩
    · rw [if_neg he]
      refine .inr ⟨_, rfl, fun j f hf => ?_⟩
      obtain ⟨b1, b2, V, c, b3, b4⟩ := hc (k + j) f (by rw [← hf, List.getElem?_drop])
      rw [add_add_, add_add_, add_block]
      exact ⟨b1, by rw [show k * 2 + 2 * j = 2 * (k + j) by omega]; exact b2, V, c, by rw [show k * 2 + (2 * j + 1) = 2 * (k + j) + 1 by omega]; exact b3, b4⟩
end

def fcells (fs : List Fr) (vs : List Value) : List Value := (fs.zip vs).flatMap fun p => [.int .i64 p.1.1, p.2]
theorem fcells_length (fs : List Fr) (vs : List Value) (h : vs.length = fs.length) : (fcells fs vs).length = fs.length * 2 := by
  have : (fs.zip vs).length = fs.length := by rw [List.length_zip]; omega
  unfold fcells
  rw [List.length_flatMap]
  simp [this, List.map_const', List.sum_replicate_nat]
theorem fcells_snoc (fs : List Fr) (vs : List Value) (h : vs.length = fs.length) (f : Fr) (u : Value) : fcells (fs ++ [f]) (vs ++ [u]) = fcells fs vs ++ [.int .i64 f.1, u] := by
  unfold fcells
  rw [List.zip_append h.symm]
  simp
theorem fcells_append (fs gs : List Fr) (vs us : List Value) (h : vs.length = fs.length) : fcells (fs ++ gs) (vs ++ us) = fcells fs vs ++ fcells gs us := by
  unfold fcells
  rw [List.zip_append h.symm, List.flatMap_append]
theorem fcells_at : ∀ (fs : List Fr) (vs : List Value) (k : Nat) (f : Fr) (u : Value), fs[k]? = some f → vs[k]? = some u → (fcells fs vs)[2 * k]? = some (.int .i64 f.1) ∧ (fcells fs vs)[2 * k + 1]? = some u
  | f' :: fs, u' :: vs, 0, f, u, hf, hu => by simp at hf hu; subst hf hu; exact ⟨rfl, rfl⟩
  | f' :: fs, u' :: vs, k + 1, f, u, hf, hu => by
    have := fcells_at fs vs k f u (by simpa using hf) (by simpa using hu)
    exact this
  | [], _, k, f, u, hf, _ => by simp at hf
  | _ :: _, [], k, f, u, _, hu => by simp at hu
theorem fcells_get : ∀ (fs : List Fr) (vs : List Value) (j : Nat) (x : Value), (fcells fs vs)[j]? = some x → ∃ k f u, fs[k]? = some f ∧ vs[k]? = some u ∧ ((j = 2 * k ∧ x = .int .i64 f.1) ∨ (j = 2 * k + 1 ∧ x = u))
  | f :: fs, u :: vs, 0, x, h => ⟨0, f, u, rfl, rfl, .inl ⟨rfl, by simp [fcells] at h; exact h.symm⟩⟩
  | f :: fs, u :: vs, 1, x, h => ⟨0, f, u, rfl, rfl, .inr ⟨rfl, by simp [fcells] at h; exact h.symm⟩⟩
  | f :: fs, u :: vs, j + 2, x, h => by
    have h' : (fcells fs vs)[j]? = some x := h
    obtain ⟨k, f', u', hf, hu, hx⟩ := fcells_get fs vs j x h'
    refine ⟨k + 1, f', u', hf, hu, ?_⟩
    rcases hx with ⟨rfl, hx⟩ | ⟨rfl, hx⟩
    · exact .inl ⟨by omega, hx⟩
    · exact .inr ⟨by omega, hx⟩
  | [], _, j, x, h => by simp [fcells] at h
  | _ :: _, [], j, x, h => by simp [fcells] at h
theorem RF.vals {w : World} {B : Nat} {a : Addr} {fs : List Fr} {cap : Nat} (h : RF w B (some a) fs cap) :
    ∃ vs : List Value, vs.length = fs.length ∧ (∀ (j : Nat) (x : Value), (fcells fs vs)[j]? = some x → w.cell? (a.add j) = some x) ∧ ∀ (k : Nat) (f : Fr) (u : Value), fs[k]? = some f → vs[k]? = some u → ∃ V c, u = .slice V f.2.length c ∧ RB w B V f.2 c := by
  obtain ⟨_, _, h3⟩ := h
  rcases h3 with ⟨h, _⟩ | ⟨a', ha, hc⟩
  · cases h
  · injection ha with ha
    subst ha
    refine ⟨(List.range fs.length).map fun k => (w.cell? (a.add (2 * k + 1))).getD undef, by simp, fun j x hx => ?_, fun k f u hf hu => ?_⟩
    · obtain ⟨k, f, u, hf, hu, hx⟩ := fcells_get _ _ j x hx
      obtain ⟨_, h1, V, c, h2, _⟩ := hc k f hf
      rcases hx with ⟨rfl, rfl⟩ | ⟨rfl, rfl⟩
      · exact h1
      · have hk := (List.getElem?_eq_some_iff.1 hf).1
        simp [hk, h2] at hu
        rw [h2, hu]
    · obtain ⟨_, h1, V, c, h2, h3⟩ := hc k f hf
      have hk := (List.getElem?_eq_some_iff.1 hf).1
      simp [hk, h2] at hu
      exact ⟨V, c, hu.symm, h3⟩

/-- A row of frames of the call's own, the bodies own rows too, in blocks that are K. -/
def OwnF (w : World) (base : Nat) (K : Nat → Prop) (v : Value) (fs : List Fr) : Prop :=
  ∃ vs : List Value, vs.length = fs.length ∧ w.ownsRow base 24 2 v fs.length (fcells fs vs) ∧ ∀ (k : Nat) (f : Fr) (u : Value), fs[k]? = some f → vs[k]? = some u → OwnB w base 5 u f.2 ∧ ∀ g, u.ownBlock = some g → K g
section
variable {w w' : World} {base : Nat} {K K' : Nat → Prop} {v : Value} {fs : List Fr}
theorem own_ne {e e' : TypeId} {size size' n n' : Nat} {u v : Value} {xs ys : List Value} {b b' : Nat} (h : w.ownsRow b e size v n xs) (h' : w.ownsRow b' e' size' u n' ys) (hne : e ≠ e') : u.ownBlock = none ∨ u.ownBlock ≠ v.ownBlock := by
  rcases h'.2 with ⟨rfl, _⟩ | ⟨g', _, _, rfl, _, hg', _⟩
  · exact .inl rfl
  · right
    rcases h.2 with ⟨rfl, _⟩ | ⟨g, _, _, rfl, _, hg, _⟩
    · simp [Value.ownBlock]
    · intro he
      have : g' = g := by simpa [Value.ownBlock] using he
      subst this
      rw [hg] at hg'
      injection hg' with hg'
      injection hg' with _ ht
      exact hne ht
theorem OwnF.nil_ (w : World) (base : Nat) (K : Nat → Prop) : OwnF w base K (.slice none 0 0) [] := ⟨[], rfl, World.ownsRow_nil w base _ 2, fun k f u hf _ => by simp at hf⟩
theorem OwnF.new0 (w : World) (base : Nat) (K : Nat → Prop) (hb : base ≤ w.heap.size) : OwnF (w.alloc (.cells #[] 24)) base K (.slice (some ⟨w.heap.size, 0, none⟩) 0 0) [] :=
  ⟨[], rfl, ⟨rfl, .inr ⟨w.heap.size, 0, #[], rfl, hb, heap_alloc_new w _, Nat.le_refl _, by simp [maxLen], rfl, rfl⟩⟩, fun k f u hf _ => by simp at hf⟩
theorem OwnF.mod {S : Nat → Prop} (h : OwnF w base K v fs) (k : Mod S w w') (hv : ∀ g, v.ownBlock = some g → ¬ S g) (hu : ∀ g, K g → base ≤ g → g < w.heap.size → ¬ S g) : OwnF w' base K v fs := by
  obtain ⟨vs, h1, h2, h3⟩ := h
  refine ⟨vs, h1, OwnR.mod h2 k hv, fun i f u hf hu' => ?_⟩
  obtain ⟨h4, h5⟩ := h3 i f u hf hu'
  exact ⟨h4.mod k (fun g hg => hu g (h5 g hg) (World.ownsRow.lt h4 g hg).1 (World.ownsRow.lt h4 g hg).2), h5⟩
theorem OwnF.none_ (h : OwnF w base K v fs) (hg : w.grownBy w' none) : OwnF w' base K v fs := h.mod (Mod.made (S := fun _ => False) hg) (fun _ _ h => h) (fun _ _ _ _ h => h)
theorem OwnF.lt (h : OwnF w base K v fs) : ∀ k, v.ownBlock = some k → base ≤ k ∧ k < w.heap.size := by
  obtain ⟨vs, h1, h2, h3⟩ := h
  exact World.ownsRow.lt h2
theorem OwnF.mono (h : OwnF w base K v fs) (hk : ∀ g, K g → base ≤ g → g < w.heap.size → K' g) : OwnF w base K' v fs := by
  obtain ⟨vs, h1, h2, h3⟩ := h
  refine ⟨vs, h1, h2, fun i f u hf hu' => ?_⟩
  obtain ⟨h4, h5⟩ := h3 i f u hf hu'
  exact ⟨h4, fun g hg => hk g (h5 g hg) (World.ownsRow.lt h4 g hg).1 (World.ownsRow.lt h4 g hg).2⟩
theorem OwnF.base_ {base' : Nat} (h : OwnF w base K v fs) (hb : base' ≤ base) : OwnF w base' K v fs := by
  obtain ⟨vs, h1, h2, h3⟩ := h
  exact ⟨vs, h1, ⟨h2.1, h2.2.imp id fun ⟨g, cap, cur, hv, hg, r⟩ => ⟨g, cap, cur, hv, Nat.le_trans hb hg, r⟩⟩, fun k f u hf hu => ⟨(h3 k f u hf hu).1.base_ hb, (h3 k f u hf hu).2⟩⟩
/-- The row isn't in a block of another kind. -/
theorem OwnF.ne_cells (h : OwnF w base K v fs) {g : Nat} {t : TypeId} {cs : Array Value} {z : Nat × Nat} (hc : w.heap[g]? = some (.cells cs t z)) (hne : 24 ≠ t) : v.ownBlock ≠ some g := by
  obtain ⟨vs, h1, h2, h3⟩ := h
  rcases h2.2 with ⟨rfl, _⟩ | ⟨g', _, _, rfl, _, hg', _⟩
  · simp [Value.ownBlock]
  · intro he
    have : g' = g := by simpa [Value.ownBlock] using he
    subst this
    rw [hc] at hg'
    injection hg' with hg'
    injection hg' with _ ht
    exact hne ht.symm
theorem OwnF.ne_own (h : OwnF w base K v fs) {b : Nat} {u : Value} {l : List UInt8} (hu : OwnB w b 5 u l) {g : Nat} (hg : u.ownBlock = some g) : v.ownBlock ≠ some g := by
  rcases hu.2 with ⟨rfl, _⟩ | ⟨g', _, _, rfl, _, hg', _⟩
  · simp [Value.ownBlock] at hg
  · have : g' = g := by simpa [Value.ownBlock] using hg
    subst this
    exact h.ne_cells hg' (by decide)
theorem OwnF.shape (h : OwnF w base K v fs) : ∃ A cap, v = .slice A fs.length cap ∧ RF w w.heap.size A fs cap ∧ ∀ g, v.ownBlock = some g → base ≤ g ∧ g < w.heap.size := by
  have hlt := h.lt
  obtain ⟨vs, h1, h2, h3⟩ := h
  rcases h2.2 with ⟨rfl, hl⟩ | ⟨g, cap, cur, rfl, hb, hg, hc, hm, _⟩
  · refine ⟨none, 0, by rw [hl], ?_, hlt⟩
    have : fs = [] := List.eq_nil_of_length_eq_zero hl
    subst this
    exact RF.nil_ _ _
  · refine ⟨_, cap, rfl, ⟨hc, hm, .inr ⟨_, rfl, fun k f hf => ?_⟩⟩, hlt⟩
    have hk : k < vs.length := by rw [h1]; exact (List.getElem?_eq_some_iff.1 hf).1
    have hu := List.getElem?_eq_getElem hk
    obtain ⟨c0, c1⟩ := fcells_at fs vs k f _ hf hu
    obtain ⟨V, c, hV, hr, _⟩ := (h3 k f _ hf hu).1.shape
    refine ⟨(Array.getElem?_eq_some_iff.1 hg).1, h2.cells (g := g) rfl _ _ c0, V, c, ?_, hr⟩
    rw [← hV]
    exact h2.cells (g := g) rfl _ _ c1
end

/-- What the program says of its type of slices of frames. -/
structure FieldT (P : Program) (t e : TypeId) : Prop where
  ht : P.underlying t = some (.slice e)
  hi : (P.info? e).map (fun i => (i.zero, i.size, i.bytes)) = some (some (.agg #[.int .i64 0, .slice none 0 0]), 2, 32)
theorem frameT : FieldT Try.prog 33 24 := ⟨Try.underlying33, by kernel_rfl⟩
theorem aggF : AggT Try.prog 24 2 := ⟨fun w => by kernel_rfl, by kernel_rfl⟩

section
variable {w : World} {ops : Array Oper} {rest : List Oper} {o : Oper} {a : Act} {Q : Exit → Act → World → Prop}
/-- 'append(fs, f)'. -/
theorem run_appF (ty : TypeId) {base : Nat} {K : Nat → Prop} {v u : Value} {fs : List Fr} {f : Fr} {ad : Addr} {c : Nat} (hown : OwnF w base K v fs) (hu : OwnB w base 5 u f.2) (hK : ∀ g, u.ownBlock = some g → K g)
    (h0 : w.cell? ad = some (.int .i64 f.1)) (h1 : w.cell? (ad.add 1) = some u) (hlen : fs.length ≤ 1000000000000) (hbase : base ≤ w.heap.size) :
    ∃ v' w', (Builtin.append_ #[33, 33] ty #[v, .slice (some ad) 1 c]).run Try.prog w = .ok v' w' ∧ OwnF w' base K v' (fs ++ [f]) ∧ w.grownBy w' v.ownBlock ∧ (v'.ownBlock = v.ownBlock ∨ v'.ownBlock = some w.heap.size) := by
  obtain ⟨vs, hl, hrow, hvs⟩ := hown
  obtain ⟨i0, hi, hz0, hz1, hz2⟩ := info_parts frameT.hi
  have hone : u.oneCell' = true := by
    obtain ⟨V, cc, rfl, _⟩ := hu.shape
    rfl
  obtain ⟨v', w', hrun, ho, hg, hn, hp⟩ := run_append_own_at (P := Try.prog) w base _ ty _ i0 (.agg #[.int .i64 0, .slice none 0 0]) 2 32 frameT.ht hi hz0 hz1 hz2 rfl (by decide) v fs.length (fcells fs vs) hrow
    ad 1 c [.int .i64 f.1, u] rfl (fun j x hx => by
      match j, hx with
      | 0, hx => simp at hx; subst hx; simpa [Addr.add] using h0
      | 1, hx => simp at hx; subst hx; exact h1
      | j + 2, hx => simp at hx) (fun x hx => by
      simp at hx
      rcases hx with rfl | rfl
      · rfl
      · exact hone) (by unfold maxLen; omega) (by omega) hbase
  refine ⟨v', w', hrun, ⟨vs ++ [u], by simp [hl], ?_, fun k f' u' hf hu' => ?_⟩, hg, hp⟩
  · rw [fcells_snoc fs vs hl, List.length_append]
    exact ho
  · by_cases hk : k < fs.length
    · rw [List.getElem?_append_left hk] at hf
      rw [List.getElem?_append_left (by omega)] at hu'
      obtain ⟨h2, h3⟩ := hvs k f' u' hf hu'
      exact ⟨World.ownsRow.kept h2 hg (own_ne hrow h2 (by decide)), h3⟩
    · have hk' : k = fs.length := by
        have := (List.getElem?_eq_some_iff.1 hf).1
        simp at this
        omega
      subst hk'
      rw [List.getElem?_append_right (Nat.le_refl _)] at hf
      rw [← hl, List.getElem?_append_right (Nat.le_refl _)] at hu'
      simp at hf hu'
      subst hf hu'
      exact ⟨World.ownsRow.kept hu hg (own_ne hrow hu (by decide)), hK⟩
theorem wpList_appF (hgd : o.guard = none) (s x : Operand)
    (ho : o.op = .call { callee := .builtin .append, args := #[s, x], argTypes := #[33, 33] })
    {base : Nat} {K : Nat → Prop} {v u : Value} {fs : List Fr} {f : Fr} {ad : Addr} {c : Nat} (hown : OwnF w base K v fs) (hu : OwnB w base 5 u f.2) (hK : ∀ g, u.ownBlock = some g → K g)
    (h0 : w.cell? ad = some (.int .i64 f.1)) (h1 : w.cell? (ad.add 1) = some u)
    (hs : a.eval s = v) (hx : a.eval x = .slice (some ad) 1 c) (hlen : fs.length ≤ 1000000000000) (hbase : base ≤ w.heap.size)
    (h : ∀ v' w', OwnF w' base K v' (fs ++ [f]) → w.grownBy w' v.ownBlock → (v'.ownBlock = v.ownBlock ∨ v'.ownBlock = some w.heap.size) → wpList Try.prog ops Q rest (a.put o.dst v') w') : wpList Try.prog ops Q (o :: rest) a w := by
  refine wpList_plain hgd fun K1 hK1 => ?_
  obtain ⟨v', w', hrun, h2, h3, h5⟩ := run_appF (c := c) o.type hown hu hK h0 h1 hlen hbase
  unfold Oper.wp execOp
  simp only [ho, resolve, invoke, builtin, Sem.run_bind, Sem.run_pure, Result.andThen_ok, List.map_toArray, List.map_cons, List.map_nil, hs, hx]
  rw [hrun]
  exact hK1 _ _ (h v' w' h2 h3 h5)
end

/-- A slice of one frame. -/
theorem RF.new1 (w w0 : World) (t : TypeId) (x : Int) (V : Option Addr) (v : List UInt8) (c n : Nat) (hn : n = v.length) (B : Nat) (hB : w.heap.size < B) (hr : RB w w.heap.size V v c)
    (hw : w0 = w.alloc (.cells #[.int .i64 x, .slice V n c] t)) : RF w0 B (some ⟨w.heap.size, 0, none⟩) [(x, v)] 1 := by
  subst hn hw
  refine ⟨Nat.le_refl _, by simp [maxLen], .inr ⟨_, rfl, fun k f hf => ⟨hB, ?_⟩⟩⟩
  match k, hf with
  | 0, hf =>
    simp at hf
    subst hf
    refine ⟨by simp [Addr.add], V, c, by simp [Addr.add], (hr.alloc (Nat.le_refl _) _).more (Nat.le_of_lt hB)⟩
  | k + 1, hf => simp at hf

/-! A Reader. -/
/-- The Reader at r: what came of the frame that isn't whole, and the error that was met. -/
def RD (w : World) (base r : Nat) (v : Value) (part : List UInt8) (e : Int) : Prop :=
  base ≤ r ∧ CB w r 80 [v, .int .i64 e] ∧ OwnB w base 5 v part
section
variable {w w' : World} {base r : Nat} {v : Value} {part : List UInt8} {e : Int}
theorem RD.mod {S : Nat → Prop} (h : RD w base r v part e) (k : Mod S w w') (hr : ¬ S r) (hv : ∀ g, v.ownBlock = some g → ¬ S g) : RD w' base r v part e := ⟨h.1, h.2.1.mod k hr, h.2.2.mod k hv⟩
theorem RD.made (h : RD w base r v part e) (hg : w.grownBy w' none) : RD w' base r v part e := h.mod (Mod.made (S := fun _ => False) hg) (fun h => h) (fun _ _ h => h)
theorem RD.lt (h : RD w base r v part e) : base ≤ r ∧ r < w.heap.size := ⟨h.1, h.2.1.lt⟩
theorem RD.vlt (h : RD w base r v part e) : ∀ g, v.ownBlock = some g → base ≤ g ∧ g < w.heap.size ∧ g ≠ r := fun g hg =>
  ⟨(World.ownsRow.lt h.2.2 g hg).1, (World.ownsRow.lt h.2.2 g hg).2, fun e => by subst e; exact h.2.2.ne_cells h.2.1 (by decide) hg⟩
/-- What a Reader writes. -/
def rdS (r : Nat) (v : Value) (k : Nat) : Prop := k = r ∨ v.ownBlock = some k
end
end Go.Proofs.Ytajfaplaaafjiaa
