/- Two Muxes side by side; frames that lie between them; the walk of the example. -/
import Derived.Test.YtajfaplaaafjiaaMxo
import Derived.Test.YtajfaplaaafjiaaFrm
namespace Go.Proofs.Ytajfaplaaafjiaa
open Go.RowKit

section
variable {w w' : World} {base base' b b' m m' lo hi : Nat} {us vs us' vs' us1 vs1 us0 vs0 : Nat → Value} {C C' C1 : Nat → Ch} {v : Value} {fs : List Fr} {S : Nat → Prop}
theorem MX.base_ (h : MX w base m us vs C) (hb : base' ≤ base) : MX w base' m us vs C :=
  ⟨Nat.le_trans hb h.hb, h.cb, fun i hi => (h.ou i hi).base_ hb, fun i hi => (h.ov i hi).base_ hb, h.uu, h.vv, h.uv⟩
/-- Two Muxes, apart. -/
structure MP (w : World) (b b' m : Nat) (us vs : Nat → Value) (C : Nat → Ch) (m' : Nat) (us' vs' : Nat → Value) (C' : Nat → Ch) : Prop where
  a : MX w b m us vs C
  b : MX w b' m' us' vs' C'
  ap : ∀ z, mxS m us vs z → ¬ mxS m' us' vs' z
theorem MP.swap (h : MP w b b' m us vs C m' us' vs' C') : MP w b' b m' us' vs' C' m us vs C := ⟨h.b, h.a, fun z h1 h2 => h.ap z h2 h1⟩
theorem MP.made (h : MP w b b' m us vs C m' us' vs' C') (g : w.grownBy w' none) : MP w' b b' m us vs C m' us' vs' C' := ⟨h.a.made g, h.b.made g, h.ap⟩
theorem MP.step (h : MP w b b' m us vs C m' us' vs' C') (k : MX w' b m us1 vs1 C1) (g : MG w w' m us vs us1 vs1) : MP w' b b' m us1 vs1 C1 m' us' vs' C' := by
  refine ⟨k, h.b.mod g.1 (fun z hz hs => h.ap z hs hz), fun z h1 h2 => ?_⟩
  rcases g.2 z h1 with e | e
  · exact h.ap z e h2
  · have := (h.b.lt z h2).2; omega
theorem MP.new {w1 w2 : World} (h1 : MX w1 b m us vs C) (h2 : MX w2 w1.heap.size m' us' vs' C') (g : w1.grownBy w2 none) : MP w2 b w1.heap.size m us vs C m' us' vs' C' := by
  refine ⟨h1.made g, h2, fun z h3 h4 => ?_⟩
  have := (h1.lt z h3).2
  have := (h2.lt z h4).1
  omega
theorem MG.below {B : Nat} (g : MG w w' m us vs us' vs') (h : MX w base m us vs C) (hB : B ≤ base) (hw : B ≤ w.heap.size) : Below B w w' := g.1.below hw (fun k hk hs => by have := (h.lt k hs).1; omega)

/-- Frames in rows of blocks from lo to hi. -/
structure FI (w : World) (lo hi : Nat) (v : Value) (fs : List Fr) : Prop where
  of : OwnF w lo (fun g => g < hi) v fs
  vl : ∀ g, v.ownBlock = some g → g < hi
  hh : hi ≤ w.heap.size
theorem OI.fi (h : OI w w' base m us0 vs0 us vs C v fs) : FI w' w.heap.size w'.heap.size v fs := ⟨h.of.mono (fun _ _ _ hlt => hlt), fun g hg => (h.of.lt g hg).2, Nat.le_refl _⟩
theorem FI.mod (h : FI w lo hi v fs) (k : Mod S w w') (hs : ∀ z, lo ≤ z → z < hi → ¬ S z) : FI w' lo hi v fs :=
  ⟨h.of.mod k (fun g hg => hs g (h.of.lt g hg).1 (h.vl g hg)) (fun g hk hb _ => hs g hb hk), h.vl, Nat.le_trans h.hh k.size⟩
theorem FI.made (h : FI w lo hi v fs) (g : w.grownBy w' none) : FI w' lo hi v fs := h.mod (Mod.made (S := fun _ => False) g) (fun _ _ _ h => h)
theorem FI.rf (h : FI w lo hi v fs) : ∃ A cap, v = .slice A fs.length cap ∧ RF w w.heap.size A fs cap := by
  obtain ⟨A, cap, h1, h2, -⟩ := h.of.shape
  exact ⟨A, cap, h1, h2⟩
/-- A Mux has no block from lo to hi. -/
def Ou (lo hi m : Nat) (us vs : Nat → Value) : Prop := ∀ z, mxS m us vs z → z < lo ∨ hi ≤ z
theorem MX.old (h : MX w base m us vs C) (hi : Nat) : Ou w.heap.size hi m us vs := fun z hz => .inl (h.lt z hz).2
theorem Ou.step (h : Ou lo hi m us vs) (g : MG w w' m us vs us' vs') (hh : hi ≤ w.heap.size) : Ou lo hi m us' vs' := fun z hz => by
  rcases g.2 z hz with e | e
  · exact h z e
  · exact .inr (Nat.le_trans hh e)
theorem FI.call (h : FI w lo hi v fs) (o : Ou lo hi m us vs) (g : MG w w' m us vs us' vs') : FI w' lo hi v fs := h.mod g.1 (fun z h1 h2 hs => by have := o z hs; omega)
theorem OI.ou (h : OI w w' base m us0 vs0 us vs C v fs) {lo hi : Nat} (o : Ou lo hi m us0 vs0) (hh : hi ≤ w.heap.size) : Ou lo hi m us vs := o.step h.mg hh
end

/-! The example. -/
def c0A (_ : Nat) : Ch := ch0
def spT : List UInt8 := textB 1500 0
def spt0 : List UInt8 := textB 512 0
def spt1 : List UInt8 := textB 512 512
def spt2 : List UInt8 := textB 476 1024
theorem spT_len : spT.length = 1500 := textB_len _ _
theorem spt0_len : spt0.length = 512 := textB_len _ _
theorem spt1_len : spt1.length = 512 := textB_len _ _
theorem spt2_len : spt2.length = 476 := textB_len _ _
def spA1 : Nat → Ch := (muW c0A 0 spT).2
def spA2 : Nat → Ch := (outM 4 spA1).2
def spB1 : Nat → Ch := (muT c0A (0, spt0)).2
def spB2 : Nat → Ch := (muT spB1 (0, spt1)).2
def spB3 : Nat → Ch := (muR spB2 0 2000).2
def spB4 : Nat → Ch := (outM 4 spB3).2
def spA3 : Nat → Ch := (muT spA2 (4, ctlB 1 0 1024)).2
set_option maxRecDepth 100000 in
theorem spW : (muW c0A 0 spT).1 = 0 := by decide +kernel
set_option maxRecDepth 100000 in
theorem spF : (outM 4 spA1).1 = [((0 : Int), spt0), ((0 : Int), spt1)] := by decide +kernel
set_option maxRecDepth 100000 in
theorem spG : (outM 4 spB3).1 = [((4 : Int), ctlB 1 0 1024)] := by decide +kernel
set_option maxRecDepth 100000 in
theorem spH : (outM 4 spA3).1 = [((0 : Int), spt2)] := by decide +kernel
end Go.Proofs.Ytajfaplaaafjiaa
