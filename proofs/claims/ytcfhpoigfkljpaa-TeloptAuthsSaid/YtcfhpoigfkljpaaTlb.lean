/- Parts of telnet's stream in memory; a Reader; what a call may write. Plain lemmas. -/
import Derived.Test.YtcfhpoigfkljpaaProg
import Derived.Test.YtcfhpoigfkljpaaTlp
import Derived.Test.YtcfhpoigfkljpaaInm
import Derived.Test.YtcfhpoigfkljpaaCb
import Derived.Deep.Slices
import Derived.Deep.Fields
namespace Go.Proofs.Ytcfhpoigfkljpaa
open Go.ChangeShapes Go.WideShapes Go.RowKit

theorem byteT : ByteT Try.prog 22 5 := ⟨Try.underlying22, Try.underlying5, by kernel_rfl⟩

/-- Blocks that were there, but for these, are as they were. -/
structure Mod (S : Nat → Prop) (w w' : World) : Prop where
  os : w'.os = w.os
  tape : w'.tape = w.tape
  output : w'.output = w.output
  size : w.heap.size ≤ w'.heap.size
  block : ∀ k, k < w.heap.size → ¬ S k → w'.heap[k]? = w.heap[k]?
section
variable {S S' : Nat → Prop} {w w' w2 : World} {base B : Nat} {e t : TypeId} {v : Value} {l : List UInt8} {A : Option Addr} {cap : Nat}
theorem Mod.refl (S : Nat → Prop) (w : World) : Mod S w w := ⟨rfl, rfl, rfl, Nat.le_refl _, fun _ _ _ => rfl⟩
theorem Mod.mono (h : Mod S w w') (hs : ∀ k, k < w.heap.size → S k → S' k) : Mod S' w w' := ⟨h.os, h.tape, h.output, h.size, fun k hk hn => h.block k hk (fun e => hn (hs k hk e))⟩
theorem Mod.next (h : Mod S w w') (k : Mod S' w' w2) (hs : ∀ i, i < w.heap.size → S' i → S i) : Mod S w w2 :=
  ⟨k.os.trans h.os, k.tape.trans h.tape, k.output.trans h.output, Nat.le_trans h.size k.size, fun i hi hn => (k.block i (Nat.lt_of_lt_of_le hi h.size) (fun e => hn (hs i hi e))).trans (h.block i hi hn)⟩
theorem Mod.of_grown {r : Option Nat} (h : w.grownBy w' r) : Mod (fun k => some k = r) w w' := ⟨h.os, h.tape, h.output, h.size, fun k hk hn => h.block k hk hn⟩
theorem Mod.made (h : w.grownBy w' none) : Mod S w w' := ⟨h.os, h.tape, h.output, h.size, fun k hk _ => h.block k hk (fun e => by cases e)⟩
theorem Mod.grown {r : Option Nat} (h : Mod S w w') (k : w'.grownBy w2 r) (hr : ∀ z, r = some z → z < w.heap.size → S z) : Mod S w w2 :=
  h.next (Mod.of_grown k) (fun i hi e => hr i e.symm hi)
theorem Mod.drew (h : Mod S w w') : Mod S w w'.drew := ⟨h.os, h.tape, h.output, h.size, h.block⟩
theorem Mod.drewN (h : Mod S w w') (n : Nat) : Mod S w (w'.drewN n) := ⟨h.os, h.tape, h.output, h.size, h.block⟩
theorem Mod.below (h : Mod S w w') (hB : B ≤ w.heap.size) (hs : ∀ k, k < B → ¬ S k) : Below B w w' := ⟨h.os, h.tape, h.output, h.size, fun k hk => h.block k (Nat.lt_of_lt_of_le hk hB) (hs k hk)⟩
theorem Mod.none (h : Mod S w w') (hs : ∀ k, k < w.heap.size → ¬ S k) : w.grownBy w' none := ⟨h.os, h.tape, h.output, h.size, fun k hk _ => h.block k hk (hs k hk)⟩
theorem CB.mod {g : Nat} {cs : List Value} (h : CB w g t cs) (k : Mod S w w') (hn : ¬ S g) : CB w' g t cs := (k.block g h.lt hn).trans h
theorem OwnR.mod {size n : Nat} {xs : List Value} (h : w.ownsRow base e size v n xs) (k : Mod S w w') (hn : ∀ g, v.ownBlock = some g → ¬ S g) : w'.ownsRow base e size v n xs := by
  refine ⟨h.1, h.2.imp id fun ⟨g, cap, cur, hv, hb, hg, r⟩ => ⟨g, cap, cur, hv, hb, ?_, r⟩⟩
  exact (k.block g (Array.getElem?_eq_some_iff.1 hg).1 (hn g (by rw [hv]; rfl))).trans hg
theorem OwnB.mod (h : OwnB w base e v l) (k : Mod S w w') (hn : ∀ g, v.ownBlock = some g → ¬ S g) : OwnB w' base e v l := OwnR.mod h k hn
theorem RB.mod (h : RB w B A l cap) (k : Mod S w w') (hB : B ≤ w.heap.size) (hs : ∀ i, i < B → ¬ S i) : RB w' B A l cap := h.below (k.below hB hs)
theorem OwnB.none_ (h : OwnB w base e v l) (hg : w.grownBy w' none) : OwnB w' base e v l := OwnB.mod h (Mod.made (S := fun _ => False) hg) (fun _ _ h => h)
theorem OwnB.ne_cells (h : OwnB w base e v l) {g : Nat} {cs : List Value} (hc : CB w g t cs) (hne : e ≠ t) : v.ownBlock ≠ some g := by
  rcases h.2 with ⟨rfl, _⟩ | ⟨g', _, _, rfl, _, hg', _⟩
  · simp [Value.ownBlock]
  · intro he
    have : g' = g := by simpa [Value.ownBlock] using he
    subst this
    rw [show w.heap[g']? = _ from hc] at hg'
    injection hg' with hg'
    injection hg' with _ ht
    exact hne ht.symm
theorem own_ne {e e' : TypeId} {size size' n n' : Nat} {u v : Value} {xs ys : List Value} {b b' : Nat} (h : w.ownsRow b e size v n xs) (h' : w.ownsRow b' e' size' u n' ys) (hne : e ≠ e') : u.ownBlock = none ∨ u.ownBlock ≠ v.ownBlock := by
  rcases h'.2 with ⟨rfl, _⟩ | ⟨g', _, _, rfl, _, hg', _⟩
  · exact .inl rfl
  · right
    rcases h.2 with ⟨rfl, _⟩ | ⟨g, _, _, rfl, _, hg, _⟩
    · simp [Value.ownBlock]
    · intro he
      have : g' = g := by simpa [Value.ownBlock] using he
      subst this
      rw [hg] at hg'
      injection hg' with hg'
      injection hg' with _ ht
      exact hne ht
end
/-- What comes of a row lies in the row's block, or in a new one. -/
def Nw (w : World) (v v' : Value) : Prop := ∀ g, v'.ownBlock = some g → v.ownBlock = some g ∨ w.heap.size ≤ g
section
variable {w w' : World} {v v' v2 : Value} {n : Nat}
theorem Nw.refl (w : World) (v : Value) : Nw w v v := fun _ h => .inl h
theorem Nw.of (h : v'.ownBlock = v.ownBlock ∨ v'.ownBlock = some n) (hn : w.heap.size ≤ n) : Nw w v v' := fun g hg => by
  rcases h with h | h
  · exact .inl (h ▸ hg)
  · rw [h] at hg; injection hg with hg; subst hg; exact .inr hn
theorem Nw.trans (h : Nw w v v') (k : Nw w' v' v2) (hs : w.heap.size ≤ w'.heap.size) : Nw w v v2 := fun g hg => by
  rcases k g hg with k | k
  · exact h g k
  · exact .inr (Nat.le_trans hs k)
theorem Nw.nil_ (w : World) (v : Value) (n cap : Nat) : Nw w v (.slice none n cap) := fun g hg => by simp [Value.ownBlock] at hg
end

/-! Parts that are read. -/
/-- The slice at A reads as the parts ts, the data of each a slice that reads as its bytes; all in blocks below B. -/
def RP (w : World) (B : Nat) (A : Option Addr) (ts : List Tl) (cap : Nat) : Prop :=
  ts.length ≤ cap ∧ cap ≤ maxLen ∧ ((A = none ∧ cap = 0) ∨ ∃ a, A = some a ∧ ∀ k t, ts[k]? = some t → a.block < B ∧
    w.cell? (a.add (4 * k)) = some (.int .i64 t.kind) ∧ w.cell? (a.add (4 * k + 1)) = some (.int .i64 t.verb) ∧ w.cell? (a.add (4 * k + 2)) = some (.int .i64 t.opt) ∧
    ∃ V c, w.cell? (a.add (4 * k + 3)) = some (.slice V t.data.length c) ∧ RB w B V t.data c)
section
variable {w w' : World} {B B' cap : Nat} {A : Option Addr} {ts : List Tl}
theorem RP.nil_ (w : World) (B : Nat) : RP w B none [] 0 := ⟨Nat.le_refl _, Nat.zero_le _, .inl ⟨rfl, rfl⟩⟩
theorem RP.keep (h : RP w B A ts cap) (hk : ∀ a : Addr, a.block < B → w'.cell? a = w.cell? a) : RP w' B A ts cap :=
  ⟨h.1, h.2.1, h.2.2.imp id fun ⟨a, hA, hc⟩ => ⟨a, hA, fun k f hf => by
    obtain ⟨hb, h1, h2, h3, V, c, h4, h5⟩ := hc k f hf
    exact ⟨hb, (hk _ (by rw [add_block]; exact hb)).trans h1, (hk _ (by rw [add_block]; exact hb)).trans h2, (hk _ (by rw [add_block]; exact hb)).trans h3, V, c, (hk _ (by rw [add_block]; exact hb)).trans h4, h5.keep hk⟩⟩⟩
theorem RP.more (h : RP w B A ts cap) (hB : B ≤ B') : RP w B' A ts cap :=
  ⟨h.1, h.2.1, h.2.2.imp id fun ⟨a, hA, hc⟩ => ⟨a, hA, fun k f hf => by
    obtain ⟨hb, h1, h2, h3, V, c, h4, h5⟩ := hc k f hf
    exact ⟨Nat.lt_of_lt_of_le hb hB, h1, h2, h3, V, c, h4, h5.more hB⟩⟩⟩
theorem RP.below (h : RP w B A ts cap) (hb : Below B w w') : RP w' B A ts cap := h.keep fun _ hlt => hb.cell hlt
theorem RP.open_ (h : RP w B A ts cap) (hp : 0 < ts.length) :
    ∃ b off, A = some ⟨b, off, none⟩ ∧ b < B ∧ ∀ k t, ts[k]? = some t → w.cell? ⟨b, off + k * 4, none⟩ = some (.int .i64 t.kind) ∧ w.cell? ⟨b, off + k * 4 + 1, none⟩ = some (.int .i64 t.verb) ∧ w.cell? ⟨b, off + k * 4 + 2, none⟩ = some (.int .i64 t.opt) ∧
      ∃ V c, w.cell? ⟨b, off + k * 4 + 3, none⟩ = some (.slice V t.data.length c) ∧ RB w B V t.data c := by
  rcases h.2.2 with ⟨_, h0⟩ | ⟨⟨b, off, s⟩, hA, hc⟩
  · have := h.1; omega
  · have hb := (hc 0 _ (List.getElem?_eq_getElem hp)).1
    have h0 := (hc 0 _ (List.getElem?_eq_getElem hp)).2.1
    have hs : s = none := by simpa [Addr.add] using World.cell?_spot h0
    subst hs
    refine ⟨b, off, hA, hb, fun k f hf => ?_⟩
    have := (hc k f hf).2
    rw [Addr.add_lit, Addr.add_lit, Addr.add_lit, Addr.add_lit, Nat.mul_comm 4 k, ← Nat.add_assoc, ← Nat.add_assoc, ← Nat.add_assoc] at this
    exact this
end

/-! Rows of parts. -/
def tcells (ts : List Tl) (vs : List Value) : List Value := (ts.zip vs).flatMap fun p => [.int .i64 p.1.kind, .int .i64 p.1.verb, .int .i64 p.1.opt, p.2]
theorem tcells_cons (t : Tl) (ts : List Tl) (u : Value) (vs : List Value) : tcells (t :: ts) (u :: vs) = [.int .i64 t.kind, .int .i64 t.verb, .int .i64 t.opt, u] ++ tcells ts vs := rfl
theorem tcells_length : ∀ (ts : List Tl) (vs : List Value), vs.length = ts.length → (tcells ts vs).length = ts.length * 4
  | [], _, _ => by simp [tcells]
  | t :: ts, u :: vs, h => by
    rw [tcells_cons, List.length_append, tcells_length ts vs (by simpa using h)]
    simp
    omega
  | _ :: _, [], h => by simp at h
theorem tcells_snoc (ts : List Tl) (vs : List Value) (h : vs.length = ts.length) (t : Tl) (u : Value) : tcells (ts ++ [t]) (vs ++ [u]) = tcells ts vs ++ [.int .i64 t.kind, .int .i64 t.verb, .int .i64 t.opt, u] := by
  unfold tcells
  rw [List.zip_append h.symm]
  simp
theorem tcells_at : ∀ (ts : List Tl) (vs : List Value) (k : Nat) (t : Tl) (u : Value), ts[k]? = some t → vs[k]? = some u →
    (tcells ts vs)[4 * k]? = some (.int .i64 t.kind) ∧ (tcells ts vs)[4 * k + 1]? = some (.int .i64 t.verb) ∧ (tcells ts vs)[4 * k + 2]? = some (.int .i64 t.opt) ∧ (tcells ts vs)[4 * k + 3]? = some u
  | t' :: ts, u' :: vs, 0, t, u, ht, hu => by simp at ht hu; subst ht hu; exact ⟨rfl, rfl, rfl, rfl⟩
  | t' :: ts, u' :: vs, k + 1, t, u, ht, hu => by
    have := tcells_at ts vs k t u (by simpa using ht) (by simpa using hu)
    exact this
  | [], _, k, t, u, ht, _ => by simp at ht
  | _ :: _, [], k, t, u, _, hu => by simp at hu
/-- The data of the last part are others. -/
theorem tcells_last (ts : List Tl) (vs : List Value) (h : vs.length = ts.length) (t : Tl) (d : List UInt8) (u u' : Value) : (tcells (ts ++ [t]) (vs ++ [u])).set (ts.length * 4 + 3) u' = tcells (ts ++ [{ t with data := d }]) (vs ++ [u']) := by
  rw [tcells_snoc ts vs h, tcells_snoc ts vs h, List.set_append_right _ _ (by rw [tcells_length ts vs h]; omega), tcells_length ts vs h, show ts.length * 4 + 3 - ts.length * 4 = 3 by omega]
  rfl

/-- A row of parts of the call's own, their data own rows too: vs. -/
structure OwnP (w : World) (base bb : Nat) (vs : List Value) (v : Value) (ts : List Tl) : Prop where
  len : vs.length = ts.length
  row : w.ownsRow base 24 4 v ts.length (tcells ts vs)
  dat : ∀ (k : Nat) (t : Tl) (u : Value), ts[k]? = some t → vs[k]? = some u → OwnB w bb 5 u t.data
section
variable {w w' : World} {base bb : Nat} {vs : List Value} {v : Value} {ts : List Tl}
theorem OwnP.nil_ (w : World) (base bb : Nat) : OwnP w base bb [] (.slice none 0 0) [] := ⟨rfl, World.ownsRow_nil w base _ 4, fun k f u hf _ => by simp at hf⟩
theorem OwnP.new0 (w : World) (base bb : Nat) (hb : base ≤ w.heap.size) : OwnP (w.alloc (.cells #[] 24)) base bb [] (.slice (some ⟨w.heap.size, 0, none⟩) 0 0) [] :=
  ⟨rfl, ⟨rfl, .inr ⟨w.heap.size, 0, #[], rfl, hb, heap_alloc_new w _, Nat.le_refl _, by simp [maxLen], rfl, rfl⟩⟩, fun k f u hf _ => by simp at hf⟩
theorem OwnP.lt (h : OwnP w base bb vs v ts) : ∀ k, v.ownBlock = some k → base ≤ k ∧ k < w.heap.size := World.ownsRow.lt h.row
theorem OwnP.dlt (h : OwnP w base bb vs v ts) : ∀ u ∈ vs, ∀ g, u.ownBlock = some g → bb ≤ g ∧ g < w.heap.size := by
  intro u hu g hg
  obtain ⟨i, hi⟩ := List.mem_iff_getElem?.1 hu
  have hlt := (List.getElem?_eq_some_iff.1 hi).1
  exact World.ownsRow.lt (h.dat i _ u (List.getElem?_eq_getElem (by have := h.len; omega)) hi) g hg
theorem OwnP.mod {S : Nat → Prop} (h : OwnP w base bb vs v ts) (k : Mod S w w') (hv : ∀ g, v.ownBlock = some g → ¬ S g) (hu : ∀ u ∈ vs, ∀ g, u.ownBlock = some g → ¬ S g) : OwnP w' base bb vs v ts :=
  ⟨h.len, OwnR.mod h.row k hv, fun i t u ht hu' => (h.dat i t u ht hu').mod k (hu u (List.mem_of_getElem? hu'))⟩
theorem OwnP.none_ (h : OwnP w base bb vs v ts) (hg : w.grownBy w' none) : OwnP w' base bb vs v ts := h.mod (Mod.made (S := fun _ => False) hg) (fun _ _ h => h) (fun _ _ _ _ h => h)
theorem OwnP.base_ {b' bb' : Nat} (h : OwnP w base bb vs v ts) (hb : b' ≤ base) (hbb : bb' ≤ bb) : OwnP w b' bb' vs v ts :=
  ⟨h.len, ⟨h.row.1, h.row.2.imp id fun ⟨g, cap, cur, hv, hg, r⟩ => ⟨g, cap, cur, hv, Nat.le_trans hb hg, r⟩⟩, fun k t u ht hu => (h.dat k t u ht hu).base_ hbb⟩
/-- The row isn't in a block of another kind. -/
theorem OwnP.ne_cells (h : OwnP w base bb vs v ts) {g : Nat} {t : TypeId} {cs : Array Value} {z : Nat × Nat} (hc : w.heap[g]? = some (.cells cs t z)) (hne : 24 ≠ t) : v.ownBlock ≠ some g := by
  rcases h.row.2 with ⟨rfl, _⟩ | ⟨g', _, _, rfl, _, hg', _⟩
  · simp [Value.ownBlock]
  · intro he
    have : g' = g := by simpa [Value.ownBlock] using he
    subst this
    rw [hc] at hg'
    injection hg' with hg'
    injection hg' with _ ht
    exact hne ht.symm
theorem own_cells {b : Nat} {u : Value} {l : List UInt8} (hu : OwnB w b 5 u l) {g : Nat} (hg : u.ownBlock = some g) : ∃ cs, w.heap[g]? = some (.cells cs 5 (0, 0)) := by
  rcases hu.2 with ⟨rfl, _⟩ | ⟨g', _, _, rfl, _, hg', _⟩
  · simp [Value.ownBlock] at hg
  · have : g' = g := by simpa [Value.ownBlock] using hg
    subst this
    exact ⟨_, hg'⟩
theorem OwnP.ne_own (h : OwnP w base bb vs v ts) {b : Nat} {u : Value} {l : List UInt8} (hu : OwnB w b 5 u l) {g : Nat} (hg : u.ownBlock = some g) : v.ownBlock ≠ some g := by
  obtain ⟨cs, hc⟩ := own_cells hu hg
  exact h.ne_cells hc (by decide)
theorem OwnP.cells_at (h : OwnP w base bb vs v ts) {k : Nat} {t : Tl} {u : Value} (ht : ts[k]? = some t) (hu : vs[k]? = some u) {g : Nat} (hg : v.ownBlock = some g) :
    w.cell? ⟨g, k * 4, none⟩ = some (.int .i64 t.kind) ∧ w.cell? ⟨g, k * 4 + 1, none⟩ = some (.int .i64 t.verb) ∧ w.cell? ⟨g, k * 4 + 2, none⟩ = some (.int .i64 t.opt) ∧ w.cell? ⟨g, k * 4 + 3, none⟩ = some u := by
  obtain ⟨c0, c1, c2, c3⟩ := tcells_at ts vs k t u ht hu
  have e0 := h.row.cells (g := g) hg _ _ c0
  have e1 := h.row.cells (g := g) hg _ _ c1
  have e2 := h.row.cells (g := g) hg _ _ c2
  have e3 := h.row.cells (g := g) hg _ _ c3
  rw [Nat.mul_comm 4 k, Addr.add_lit, Nat.zero_add] at e0 e1 e2 e3
  exact ⟨e0, e1, e2, e3⟩
theorem OwnP.shape (h : OwnP w base bb vs v ts) : ∃ A cap, v = .slice A ts.length cap ∧ RP w w.heap.size A ts cap ∧ (∀ g, v.ownBlock = some g → A = some ⟨g, 0, none⟩) ∧ (0 < ts.length → ∃ g, v.ownBlock = some g) := by
  have hat := @OwnP.cells_at w base bb vs v ts h
  have hl := h.len
  rcases h.row.2 with ⟨rfl, hl0⟩ | ⟨g, cap, cur, rfl, hb, hg, hc, hm, _⟩
  · have : ts = [] := List.eq_nil_of_length_eq_zero hl0
    subst this
    exact ⟨none, 0, rfl, RP.nil_ _ _, fun g hg => by simp [Value.ownBlock] at hg, fun h => absurd h (by simp)⟩
  · refine ⟨_, cap, rfl, ⟨hc, hm, .inr ⟨_, rfl, fun k t ht => ?_⟩⟩, fun g' hg' => by simp [Value.ownBlock] at hg'; rw [hg'], fun _ => ⟨g, rfl⟩⟩
    have hk : k < vs.length := by rw [hl]; exact (List.getElem?_eq_some_iff.1 ht).1
    have hu := List.getElem?_eq_getElem hk
    obtain ⟨e0, e1, e2, e3⟩ := hat ht hu (g := g) rfl
    obtain ⟨V, c, hV, hr, _⟩ := (h.dat k t _ ht hu).shape
    rw [Nat.mul_comm 4 k, Addr.add_lit, Addr.add_lit, Addr.add_lit, Addr.add_lit, Nat.zero_add, Nat.zero_add, Nat.zero_add, Nat.zero_add]
    rw [hV] at e3
    exact ⟨(Array.getElem?_eq_some_iff.1 hg).1, e0, e1, e2, V, c, e3, hr⟩
/-- The data of the last part are others, and lie elsewhere. -/
theorem OwnP.setLast {tl : Tl} {u u' : Value} {us : List Value} {d : List UInt8} {t0 : List Tl} (h : OwnP w base bb (us ++ [u]) v (t0 ++ [tl])) (hd : OwnB w' bb 5 u' d) {g : Nat} (hg : v.ownBlock = some g) {cs : List Value} (hc : CB w g 24 cs)
    (hw : CB w' g 24 (cs.set (t0.length * 4 + 3) u')) (hm : w.grownBy w' (some g)) : OwnP w' base bb (us ++ [u']) v (t0 ++ [{ tl with data := d }]) := by
  have hlen : us.length = t0.length := by have := h.len; simpa using this
  refine ⟨by simp [hlen], ?_, fun k t x ht hx => ?_⟩
  · refine ⟨by rw [tcells_length _ _ (by simp [hlen])], ?_⟩
    rcases h.row.2 with ⟨rfl, hl0⟩ | ⟨g', cap, cur, rfl, hb, hg', hcc, hmm, hz, ht⟩
    · simp at hl0
    · have e : g' = g := by simpa [Value.ownBlock] using hg
      subst e
      have hcur : cs.toArray = cur := by
        have e1 := (show w.heap[g']? = _ from hc).symm.trans hg'
        injection e1 with e1
        injection e1
      subst hcur
      refine .inr ⟨g', cap, (cs.set (t0.length * 4 + 3) u').toArray, by simp, hb, hw, by simpa using hcc, hmm, by simpa using hz, ?_⟩
      simp only [List.length_append, List.length_cons, List.length_nil] at ht ⊢
      rw [← tcells_last t0 us hlen tl d u u', ← ht, List.take_set]
  · by_cases hk : k < t0.length
    · rw [List.getElem?_append_left hk] at ht
      rw [List.getElem?_append_left (by omega)] at hx
      have h4 := h.dat k t x (by rw [List.getElem?_append_left hk]; exact ht) (by rw [List.getElem?_append_left (by omega)]; exact hx)
      exact h4.mod (Mod.of_grown hm) (fun z hz e => by injection e with e; subst e; exact h4.ne_cells hc (by decide) hz)
    · have hk' : k = t0.length := by
        have := (List.getElem?_eq_some_iff.1 ht).1
        simp at this
        omega
      subst hk'
      rw [List.getElem?_append_right (Nat.le_refl _)] at ht
      rw [← hlen, List.getElem?_append_right (Nat.le_refl _)] at hx
      simp at ht hx
      subst ht hx
      exact hd
end
theorem telT : (Try.prog.underlying 33 = some (.slice 24)) ∧ (Try.prog.info? 24).map (fun i => (i.zero, i.size, i.bytes)) = some (some (.agg #[.int .i64 0, .int .i64 0, .int .i64 0, .slice none 0 0]), 4, 48) := ⟨Try.underlying33, by kernel_rfl⟩
theorem aggT4 : AggT Try.prog 24 4 := ⟨fun w => by kernel_rfl, by kernel_rfl⟩
theorem one_own {w : World} {b : Nat} {u : Value} {l : List UInt8} (hu : OwnB w b 5 u l) : u.oneCell' = true := by
  obtain ⟨V, cc, rfl, _⟩ := hu.shape
  rfl

section
variable {w : World} {ops : Array Oper} {rest : List Oper} {o : Oper} {a : Act} {Q : Exit → Act → World → Prop}
/-- 'append(ts, t)'. -/
theorem run_appP (ty : TypeId) {base bb : Nat} {vs : List Value} {v u : Value} {ts : List Tl} {t : Tl} {ad : Addr} {c : Nat} (hown : OwnP w base bb vs v ts) (hu : OwnB w bb 5 u t.data)
    (h0 : w.cell? ad = some (.int .i64 t.kind)) (h1 : w.cell? (ad.add 1) = some (.int .i64 t.verb)) (h2 : w.cell? (ad.add 2) = some (.int .i64 t.opt)) (h3 : w.cell? (ad.add 3) = some u) (hlen : ts.length ≤ 1000000000000) (hbase : base ≤ w.heap.size) :
    ∃ v' w', (Builtin.append_ #[33, 33] ty #[v, .slice (some ad) 1 c]).run Try.prog w = .ok v' w' ∧ OwnP w' base bb (vs ++ [u]) v' (ts ++ [t]) ∧ w.grownBy w' v.ownBlock ∧ (v'.ownBlock = v.ownBlock ∨ v'.ownBlock = some w.heap.size) := by
  obtain ⟨i0, hi, hz0, hz1, hz2⟩ := info_parts telT.2
  have hone := one_own hu
  obtain ⟨v', w', hrun, ho, hg, hn, hp⟩ := run_append_own_at (P := Try.prog) w base _ ty _ i0 (.agg #[.int .i64 0, .int .i64 0, .int .i64 0, .slice none 0 0]) 4 48 telT.1 hi hz0 hz1 hz2 rfl (by decide) v ts.length (tcells ts vs) hown.row
    ad 1 c [.int .i64 t.kind, .int .i64 t.verb, .int .i64 t.opt, u] rfl (fun j x hx => by
      match j, hx with
      | 0, hx => simp at hx; subst hx; simpa [Addr.add] using h0
      | 1, hx => simp at hx; subst hx; exact h1
      | 2, hx => simp at hx; subst hx; exact h2
      | 3, hx => simp at hx; subst hx; exact h3
      | j + 4, hx => simp at hx) (fun x hx => by
      simp at hx
      rcases hx with rfl | rfl | rfl | rfl
      · rfl
      · rfl
      · rfl
      · exact hone) (by unfold maxLen; omega) (by omega) hbase
  refine ⟨v', w', hrun, ⟨by simp [hown.len], ?_, fun k t' u' ht hu' => ?_⟩, hg, hp⟩
  · rw [tcells_snoc ts vs hown.len, List.length_append]
    exact ho
  · by_cases hk : k < ts.length
    · rw [List.getElem?_append_left hk] at ht
      rw [List.getElem?_append_left (by have := hown.len; omega)] at hu'
      have h4 := hown.dat k t' u' ht hu'
      exact World.ownsRow.kept h4 hg (own_ne hown.row h4 (by decide))
    · have hk' : k = ts.length := by
        have := (List.getElem?_eq_some_iff.1 ht).1
        simp at this
        omega
      subst hk'
      rw [List.getElem?_append_right (Nat.le_refl _)] at ht
      rw [← hown.len, List.getElem?_append_right (Nat.le_refl _)] at hu'
      simp at ht hu'
      subst ht hu'
      exact World.ownsRow.kept hu hg (own_ne hown.row hu (by decide))
theorem wpList_appP (hgd : o.guard = none) (s x : Operand)
    (ho : o.op = .call { callee := .builtin .append, args := #[s, x], argTypes := #[33, 33] })
    {base bb : Nat} {vs : List Value} {v u : Value} {ts : List Tl} {t : Tl} {ad : Addr} {c : Nat} (hown : OwnP w base bb vs v ts) (hu : OwnB w bb 5 u t.data)
    (h0 : w.cell? ad = some (.int .i64 t.kind)) (h1 : w.cell? (ad.add 1) = some (.int .i64 t.verb)) (h2 : w.cell? (ad.add 2) = some (.int .i64 t.opt)) (h3 : w.cell? (ad.add 3) = some u)
    (hs : a.eval s = v) (hx : a.eval x = .slice (some ad) 1 c) (hlen : ts.length ≤ 1000000000000) (hbase : base ≤ w.heap.size)
    (h : ∀ v' w', OwnP w' base bb (vs ++ [u]) v' (ts ++ [t]) → w.grownBy w' v.ownBlock → (v'.ownBlock = v.ownBlock ∨ v'.ownBlock = some w.heap.size) → wpList Try.prog ops Q rest (a.put o.dst v') w') : wpList Try.prog ops Q (o :: rest) a w := by
  refine wpList_plain hgd fun K1 hK1 => ?_
  obtain ⟨v', w', hrun, h2, h3, h5⟩ := run_appP (c := c) o.type hown hu h0 h1 h2 h3 hlen hbase
  unfold Oper.wp execOp
  simp only [ho, resolve, invoke, builtin, Sem.run_bind, Sem.run_pure, Result.andThen_ok, List.map_toArray, List.map_cons, List.map_nil, hs, hx]
  rw [hrun]
  exact hK1 _ _ (h v' w' h2 h3 h5)
end

/-! A Reader. -/
/-- The Reader at r. -/
def RD (w : World) (base r : Nat) (v : Value) (s : Ts) : Prop :=
  base ≤ r ∧ CB w r 60 [.int .i64 (s.beh : Int), .int .i64 s.part.kind, .int .i64 s.part.verb, .int .i64 s.part.opt, v, .int .i64 s.err] ∧ OwnB w base 5 v s.part.data
section
variable {w w' : World} {base r : Nat} {v v' : Value} {s s' : Ts}
theorem RD.mod {S : Nat → Prop} (h : RD w base r v s) (k : Mod S w w') (hr : ¬ S r) (hv : ∀ g, v.ownBlock = some g → ¬ S g) : RD w' base r v s := ⟨h.1, h.2.1.mod k hr, h.2.2.mod k hv⟩
theorem RD.base_ {b : Nat} (h : RD w base r v s) (hb : b ≤ base) : RD w b r v s := ⟨Nat.le_trans hb h.1, h.2.1, h.2.2.base_ hb⟩
theorem RD.made (h : RD w base r v s) (hg : w.grownBy w' none) : RD w' base r v s := h.mod (Mod.made (S := fun _ => False) hg) (fun h => h) (fun _ _ h => h)
theorem RD.lt (h : RD w base r v s) : base ≤ r ∧ r < w.heap.size := ⟨h.1, h.2.1.lt⟩
theorem RD.vlt (h : RD w base r v s) : ∀ g, v.ownBlock = some g → base ≤ g ∧ g < w.heap.size ∧ g ≠ r := fun g hg =>
  ⟨(World.ownsRow.lt h.2.2 g hg).1, (World.ownsRow.lt h.2.2 g hg).2, fun e => by subst e; exact h.2.2.ne_cells h.2.1 (by decide) hg⟩
/-- What a Reader writes. -/
def rdS (r : Nat) (v : Value) (k : Nat) : Prop := k = r ∨ v.ownBlock = some k
/-- What a call on a Reader comes to. -/
def RR (w w' : World) (base r : Nat) (v : Value) (s' : Ts) : Prop := ∃ v', RD w' base r v' s' ∧ Mod (rdS r v) w w' ∧ Nw w v v'
/-- The Reader's cells are written, its data are as they were, or nil. -/
theorem RD.cells (h : RD w base r v s) (hc : CB w' r 60 [.int .i64 (s'.beh : Int), .int .i64 s'.part.kind, .int .i64 s'.part.verb, .int .i64 s'.part.opt, v', .int .i64 s'.err]) (g : w.grownBy w' (some r)) (hv : (v' = v ∧ s'.part.data = s.part.data) ∨ (v' = .slice none 0 0 ∧ s'.part.data = [])) :
    RD w' base r v' s' ∧ Mod (rdS r v) w w' ∧ Nw w v v' := by
  refine ⟨⟨h.1, hc, ?_⟩, (Mod.of_grown g).mono (fun k _ hk => .inl (by injection hk)), ?_⟩
  · rcases hv with ⟨rfl, e⟩ | ⟨rfl, e⟩
    · rw [e]
      exact h.2.2.mod (Mod.of_grown g) (fun g' hg e => by injection e with e; subst e; exact h.2.2.ne_cells h.2.1 (by decide) hg)
    · rw [e]
      exact OwnB.nil_ _ _ _
  · rcases hv with ⟨rfl, -⟩ | ⟨rfl, -⟩
    · exact Nw.refl _ _
    · exact Nw.nil_ _ _ _ _
end
end Go.Proofs.Ytcfhpoigfkljpaa
