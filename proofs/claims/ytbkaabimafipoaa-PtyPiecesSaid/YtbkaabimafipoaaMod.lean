/- What a call may write; own rows of bytes. Plain lemmas. -/
import Derived.Test.YtbkaabimafipoaaProg
import Derived.Test.YtbkaabimafipoaaCb
import Derived.Deep.Slices
import Derived.Deep.Fields
namespace Go.Proofs.Ytbkaabimafipoaa
open Go.ChangeShapes Go.WideShapes Go.RowKit

theorem byteT : ByteT Try.prog 30 5 := ⟨Try.underlying30, Try.underlying5, by kernel_rfl⟩

/-- Blocks that were there, but for these, are as they were. -/
structure Mod (S : Nat → Prop) (w w' : World) : Prop where
  os : w'.os = w.os
  tape : w'.tape = w.tape
  output : w'.output = w.output
  size : w.heap.size ≤ w'.heap.size
  block : ∀ k, k < w.heap.size → ¬ S k → w'.heap[k]? = w.heap[k]?
section
variable {S S' : Nat → Prop} {w w' w2 : World} {base B : Nat} {e t : TypeId} {v : Value} {l : List UInt8} {A : Option Addr} {cap : Nat}
theorem Mod.refl (S : Nat → Prop) (w : World) : Mod S w w := ⟨rfl, rfl, rfl, Nat.le_refl _, fun _ _ _ => rfl⟩
theorem Mod.mono (h : Mod S w w') (hs : ∀ k, k < w.heap.size → S k → S' k) : Mod S' w w' := ⟨h.os, h.tape, h.output, h.size, fun k hk hn => h.block k hk (fun e => hn (hs k hk e))⟩
theorem Mod.next (h : Mod S w w') (k : Mod S' w' w2) (hs : ∀ i, i < w.heap.size → S' i → S i) : Mod S w w2 :=
  ⟨k.os.trans h.os, k.tape.trans h.tape, k.output.trans h.output, Nat.le_trans h.size k.size, fun i hi hn => (k.block i (Nat.lt_of_lt_of_le hi h.size) (fun e => hn (hs i hi e))).trans (h.block i hi hn)⟩
theorem Mod.of_grown {r : Option Nat} (h : w.grownBy w' r) : Mod (fun k => some k = r) w w' := ⟨h.os, h.tape, h.output, h.size, fun k hk hn => h.block k hk hn⟩
theorem Mod.made (h : w.grownBy w' none) : Mod S w w' := ⟨h.os, h.tape, h.output, h.size, fun k hk _ => h.block k hk (fun e => by cases e)⟩
theorem Mod.grown {r : Option Nat} (h : Mod S w w') (k : w'.grownBy w2 r) (hr : ∀ z, r = some z → z < w.heap.size → S z) : Mod S w w2 :=
  h.next (Mod.of_grown k) (fun i hi e => hr i e.symm hi)
theorem Mod.drew (h : Mod S w w') : Mod S w w'.drew := ⟨h.os, h.tape, h.output, h.size, h.block⟩
theorem Mod.below (h : Mod S w w') (hB : B ≤ w.heap.size) (hs : ∀ k, k < B → ¬ S k) : Below B w w' := ⟨h.os, h.tape, h.output, h.size, fun k hk => h.block k (Nat.lt_of_lt_of_le hk hB) (hs k hk)⟩
theorem Mod.none (h : Mod S w w') (hs : ∀ k, k < w.heap.size → ¬ S k) : w.grownBy w' none := ⟨h.os, h.tape, h.output, h.size, fun k hk _ => h.block k hk (hs k hk)⟩
theorem Mod.one {g : Nat} (h : Mod S w w') (hs : ∀ k, k < w.heap.size → S k → k = g) : w.grownBy w' (some g) := ⟨h.os, h.tape, h.output, h.size, fun k hk hn => h.block k hk (fun e => hn (by rw [hs k hk e]))⟩
theorem CB.mod {g : Nat} {cs : List Value} (h : CB w g t cs) (k : Mod S w w') (hn : ¬ S g) : CB w' g t cs := (k.block g h.lt hn).trans h
theorem OwnR.mod {size n : Nat} {xs : List Value} (h : w.ownsRow base e size v n xs) (k : Mod S w w') (hn : ∀ g, v.ownBlock = some g → ¬ S g) : w'.ownsRow base e size v n xs := by
  refine ⟨h.1, h.2.imp id fun ⟨g, cap, cur, hv, hb, hg, r⟩ => ⟨g, cap, cur, hv, hb, ?_, r⟩⟩
  exact (k.block g (Array.getElem?_eq_some_iff.1 hg).1 (hn g (by rw [hv]; rfl))).trans hg
theorem OwnB.mod (h : OwnB w base e v l) (k : Mod S w w') (hn : ∀ g, v.ownBlock = some g → ¬ S g) : OwnB w' base e v l := OwnR.mod h k hn
theorem RB.mod (h : RB w B A l cap) (k : Mod S w w') (hB : B ≤ w.heap.size) (hs : ∀ i, i < B → ¬ S i) : RB w' B A l cap := h.below (k.below hB hs)
theorem OwnB.none_ (h : OwnB w base e v l) (hg : w.grownBy w' none) : OwnB w' base e v l := OwnB.mod h (Mod.made (S := fun _ => False) hg) (fun _ _ h => h)
theorem OwnB.ne_cells (h : OwnB w base e v l) {g : Nat} {cs : List Value} (hc : CB w g t cs) (hne : e ≠ t) : v.ownBlock ≠ some g := by
  rcases h.2 with ⟨rfl, _⟩ | ⟨g', _, _, rfl, _, hg', _⟩
  · simp [Value.ownBlock]
  · intro he
    have : g' = g := by simpa [Value.ownBlock] using he
    subst this
    rw [show w.heap[g']? = _ from hc] at hg'
    injection hg' with hg'
    injection hg' with _ ht
    exact hne ht.symm
/-- All of it cut away: the row stays. -/
theorem OwnB.cut0 {n : Nat} (h : OwnB w base e (.slice A n cap) l) : OwnB w base e (.slice A 0 cap) [] := by
  rcases h.2 with ⟨hv, _⟩ | ⟨g, cap', cur, hv, hb, hg, hc, hm, hz, ht⟩
  · injection hv with h1 h2 h3
    subst h1 h3
    exact OwnB.nil_ w base e
  · injection hv with h1 h2 h3
    subst h1 h3
    exact ⟨rfl, .inr ⟨g, cap, cur, rfl, hb, hg, Nat.zero_le _, hm, hz, by simp [bcells]⟩⟩
end

end Go.Proofs.Ytbkaabimafipoaa
