/- One round of a Reader's Feed. Plain lemmas. -/
import Derived.Test.YtajfaplaaafjiaaFrd
namespace Go.Proofs.Ytajfaplaaafjiaa
open Go.RowKit

section
variable {P : Program} {ops : Array Oper} {Q : Exit → Act → World → Prop} {md : Region.Mode} {S : World → Prop}
/-- What is asked of an operation that may come up. -/
def UpS (P : Program) (ops : Array Oper) (Q : Exit → Act → World → Prop) (md : Region.Mode) (S : World → Prop) (fuel : Nat) (listed : Array Bool) (i : Nat) (o : Oper) (a : Act) (w : World) : Prop :=
  ∀ K : Act → World → Prop, Shut (∀ a' w', S w' → (S w' → wpAnyH P md ops Q S fuel (listed.setIfInBounds i true) a' w') → K a' w') → o.wp P a w K Q
theorem upS_op {fuel : Nat} {listed : Array Bool} {i : Nat} {o : Oper} {a : Act} {w : World} (hi : ops[i]? = some o) (hw : Region.wanted o (yielded ops a.tmps) = true) (h : UpS P ops Q md S fuel listed i o a w) :
    wpOp P ops Q i (fun a' w' => S w' ∧ wpAnyH P md ops Q S fuel (listed.setIfInBounds i true) a' w') a w := by
  unfold wpOp
  rw [hi]
  simp only [hw, if_true]
  exact .inl (h _ fun a' w' hf hh => ⟨hf, hh hf⟩)
theorem helds_two {i j : Nat} {oi oj : Oper} {fuel : Nat} {listed : Array Bool} {a : Act} {w : World} (hr : Region.ready md ops listed = [i, j]) (hi : ops[i]? = some oi) (hj : ops[j]? = some oj)
    (hwi : Region.wanted oi (yielded ops a.tmps) = true) (hwj : Region.wanted oj (yielded ops a.tmps) = true)
    (h1 : UpS P ops Q md S fuel listed i oi a w) (h2 : UpS P ops Q md S fuel listed j oj a w) : wpAnyH P md ops Q S (fuel + 1) listed a w := by
  refine wpAnyH_all hr (by simp) fun k hk => ?_
  simp only [List.mem_cons, List.not_mem_nil, or_false] at hk
  rcases hk with rfl | rfl
  · exact upS_op hi hwi h1
  · exact upS_op hj hwj h2
end

/-- An operation that yields a value and leaves the world. -/
theorem wp_valD {P : Program} {o : Oper} {a : Act} {w : World} {K : Act → World → Prop} {Q : Exit → Act → World → Prop} {d : Option Tmp} {v : Value} (hd : o.dst = d) (h : (execOp a.eval o).run P w = .ok (.value v) w) (hk : K (a.put d v) w) : o.wp P a w K Q := by
  subst hd
  exact Inv.wp_value h hk
theorem wp_callD {P : Program} {o : Oper} {a : Act} {w : World} {K : Act → World → Prop} {Q : Exit → Act → World → Prop} {d : Option Tmp} {f : FuncId} {args : Array Value} (hd : o.dst = d) (h : (execOp a.eval o).run P w = .ok (.enter f args) w)
    (hc : Calls P f args w fun e w' => ∃ v, e = .returned v ∧ K (a.put d v) w') : o.wp P a w K Q := by
  subst hd
  exact Inv.wp_call h hc
theorem faultN_app {q : List UInt8} (h0 : q ≠ []) (h : faultN q ≠ 0) (r : List UInt8) : scan (q ++ r) = ([], [], faultN q) := by
  have h0' : q ++ r ≠ [] := by simp [h0]
  unfold faultN at h ⊢
  by_cases h4 : 4 < (q.headD 0).toNat
  · rw [if_pos h4, scan_chan h0' (by rw [headD_app h0]; exact h4)]
  · rw [if_neg h4] at h ⊢
    by_cases h5 : 3 ≤ q.length ∧ 512 < bodyN q
    · rw [if_pos h5, scan_long h0' (by rw [headD_app h0]; exact h4) (by rw [List.length_append]; omega) (by rw [bodyN_app h5.1]; exact h5.2)]
    · rw [if_neg h5] at h; exact absurd rfl h
theorem faultN_ok {q : List UInt8} (h : faultN q = 0) : (q.headD 0).toNat ≤ 4 ∧ (3 ≤ q.length → bodyN q ≤ 512) := by
  unfold faultN at h
  by_cases h4 : 4 < (q.headD 0).toNat
  · rw [if_pos h4] at h; exact absurd h (by decide)
  · rw [if_neg h4] at h
    by_cases h5 : 3 ≤ q.length ∧ 512 < bodyN q
    · rw [if_pos h5] at h; exact absurd h (by decide)
    · exact ⟨by omega, fun h3 => by omega⟩
theorem Inc.small {p : List UInt8} (h : Inc p) : p.length < 515 := by
  rcases h with rfl | ⟨_, h | ⟨h1, h2⟩⟩
  · simp
  · omega
  · omega
theorem step_pure {p d : List UInt8} (hi : Inc p) (hd : 0 < d.length) : ∃ L : Nat, lacksN p = (L : Int) ∧ 0 < L ∧ L ≤ 600 ∧ ∀ m, m = min L d.length → ∀ q, q = p ++ d.take m →
    0 < m ∧ m ≤ d.length ∧ 0 < q.length ∧ q.length ≤ 600 ∧ p ++ d = q ++ d.drop m ∧
    (faultN q ≠ 0 → scan (p ++ d) = ([], [], faultN q)) ∧
    (faultN q = 0 → lacksN q = 0 → 3 ≤ q.length ∧ scan (p ++ d) = ((((q.headD 0).toNat : Int), q.drop 3) :: (scan (d.drop m)).1, (scan (d.drop m)).2)) ∧
    (faultN q = 0 → lacksN q ≠ 0 → Inc q) := by
  have hs := hi.small
  obtain ⟨L, hL, hL0, hL6, hLp⟩ : ∃ L : Nat, lacksN p = (L : Int) ∧ 0 < L ∧ p.length + L ≤ 515 ∧ ((p.length < 3 ∧ p.length + L = 3) ∨ (3 ≤ p.length ∧ p.length + L = 3 + bodyN p)) := by
    by_cases h3 : p.length < 3
    · exact ⟨3 - p.length, by unfold lacksN; rw [if_pos h3]; omega, by omega, by omega, .inl ⟨h3, by omega⟩⟩
    · rcases hi with rfl | ⟨_, h | ⟨h1, h2⟩⟩
      · simp at h3
      · exact absurd h h3
      · exact ⟨3 + bodyN p - p.length, by unfold lacksN; rw [if_neg h3]; omega, by omega, by omega, .inr ⟨by omega, by omega⟩⟩
  refine ⟨L, hL, hL0, by omega, fun m hm q hq => ?_⟩
  have hm0 : 0 < m := by omega
  have hmd : m ≤ d.length := by omega
  have hql : q.length = p.length + m := by rw [hq, List.length_append, List.length_take]; omega
  have he : p ++ d = q ++ d.drop m := by rw [hq, List.append_assoc, List.take_append_drop]
  have h0 : q ≠ [] := by intro e; rw [e] at hql; simp at hql; omega
  have hle : 3 ≤ q.length → q.length ≤ 3 + bodyN q := by
    intro h3
    rcases hLp with ⟨h1, h2⟩ | ⟨h1, h2⟩
    · omega
    · rw [hq, bodyN_app h1, ← hq]; omega
  refine ⟨hm0, hmd, by omega, by omega, he, fun hf => by rw [he]; exact faultN_app h0 hf _, fun hf hl => ?_, fun hf hl => ?_⟩
  · obtain ⟨f1, f2⟩ := faultN_ok hf
    have h3 : 3 ≤ q.length := by
      unfold lacksN at hl
      split at hl <;> omega
    have hlen : q.length = 3 + bodyN q := by
      unfold lacksN at hl
      rw [if_neg (by omega)] at hl
      omega
    refine ⟨h3, ?_⟩
    have hb := bodyN_app (b := d.drop m) h3
    have hdr : (q ++ d.drop m).drop (3 + bodyN q) = d.drop m := by rw [← hlen, List.drop_left]
    have htk : ((q ++ d.drop m).drop 3).take (bodyN q) = q.drop 3 := by
      rw [List.drop_append, show 3 - q.length = 0 by omega, List.drop_zero, List.take_left' (by rw [List.length_drop]; omega)]
    rw [he, scan_whole (by rw [headD_app h0]; omega) (by rw [hb]; have := f2 h3; omega) (by rw [hb, List.length_append]; omega), hb, headD_app h0, hdr, htk]
  · obtain ⟨f1, f2⟩ := faultN_ok hf
    refine .inr ⟨f1, ?_⟩
    by_cases h3 : q.length < 3
    · exact .inl h3
    · have := hle (by omega)
      unfold lacksN at hl
      rw [if_neg h3] at hl
      exact .inr ⟨f2 (by omega), by omega⟩

/-- The slice doesn't lie where the Reader writes. -/
def Apart (A : Option Addr) (d : List UInt8) (r : Nat) (v : Value) : Prop := ∀ a, A = some a → 0 < d.length → a.block ≠ r ∧ v.ownBlock ≠ some a.block
theorem RB.apart {w w' : World} {B B' : Nat} {A : Option Addr} {l : List UInt8} {c : Nat} (h : RB w B A l c) (hk : ∀ a, A = some a → 0 < l.length → w'.heap[a.block]? = w.heap[a.block]?) (hB : B ≤ B') : RB w' B' A l c := by
  obtain ⟨h1, h2, h3⟩ := h
  refine ⟨h1, h2, h3.imp id fun ⟨a, hA, hc⟩ => ⟨a, hA, fun k u hu => ?_⟩⟩
  obtain ⟨h4, h5⟩ := hc k u hu
  have hl := (List.getElem?_eq_some_iff.1 hu).1
  refine ⟨Nat.lt_of_lt_of_le h4 hB, (World.cell?_of_block ?_).trans h5⟩
  rw [add_block]
  exact hk a hA (by omega)
theorem RB.blk {w : World} {B : Nat} {A : Option Addr} {l : List UInt8} {c : Nat} (h : RB w B A l c) : ∀ a, A = some a → 0 < l.length → a.block < B := by
  intro a hA hl
  rcases h.2.2 with ⟨h0, _⟩ | ⟨a', hA', hc⟩
  · rw [hA] at h0; cases h0
  · rw [hA] at hA'
    injection hA' with hA'
    subst hA'
    exact (hc 0 _ (List.getElem?_eq_getElem hl)).1
theorem RB.modA {w w' : World} {S : Nat → Prop} {A : Option Addr} {l : List UInt8} {c : Nat} (h : RB w w.heap.size A l c) (k : Mod S w w') (ha : ∀ a, A = some a → 0 < l.length → ¬ S a.block) : RB w' w'.heap.size A l c :=
  h.apart (fun a hA hl => k.block a.block (h.blk a hA hl) (ha a hA hl)) k.size
theorem feed_step {w wd w2 w3 : World} {base r : Nat} {v v1 v2 u : Value} {p1 q d : List UInt8} {acc : List Fr} {A : Option Addr} {c : Nat} {e : Int} (hrw : r < w.heap.size) (hM : Mod (rdS r v) w wd) (hR : RD wd base r v1 p1 0) (hv1 : ∀ g, v1.ownBlock = some g → v.ownBlock = some g ∨ w.heap.size ≤ g)
    (hof : OwnF wd w.heap.size (fun g => v1.ownBlock ≠ some g) u acc) (hd : RB wd w.heap.size A d c) (hap : Apart A d r v1)
    (o2 : OwnB w2 base 5 v2 q) (g2 : wd.grownBy w2 v1.ownBlock) (a2 : v2.ownBlock = v1.ownBlock ∨ v2.ownBlock = some wd.heap.size) (c3 : CB w3 r 80 [v2, .int .i64 e]) (g3 : w2.grownBy w3 (some r)) :
    RD w3 base r v2 q e ∧ Mod (rdS r v) w w3 ∧ (∀ g, v2.ownBlock = some g → v.ownBlock = some g ∨ w.heap.size ≤ g) ∧ OwnF w3 w.heap.size (fun g => v2.ownBlock ≠ some g) u acc ∧ RB w3 w.heap.size A d c ∧ Apart A d r v2 := by
  have hws := hM.size
  have hvl := hR.vlt
  have m2 : Mod (fun k => some k = v1.ownBlock) wd w2 := Mod.of_grown g2
  have m3 : Mod (fun k => some k = some r) w2 w3 := Mod.of_grown g3
  have ne2 : ∀ g, v2.ownBlock = some g → g ≠ r := by
    intro g hg e
    rcases a2 with h | h
    · exact (hvl g (by rw [← h, hg])).2.2 e
    · rw [hg] at h; injection h with h; omega
  have hofr := fun g hg => (hof.lt g hg)
  have hR2 := hR.2.2
  have hof2 : OwnF wd w.heap.size (fun g => v2.ownBlock ≠ some g ∧ v1.ownBlock ≠ some g) u acc := hof.mono (fun g hk hb hlt => by
    refine ⟨?_, hk⟩
    rcases a2 with h | h
    · rw [h]; exact hk
    · rw [h]; intro e; injection e with e; omega)
  refine ⟨⟨hR.1, c3, OwnB.mod o2 m3 (fun g hg e => ne2 g hg (by injection e))⟩, ?_, ?_, ?_, ?_, ?_⟩
  · refine (hM.grown g2 (fun z hz hlt => ?_)).grown g3 (fun z hz hlt => by injection hz with hz; exact .inl hz.symm)
    rcases hv1 z hz with h | h
    · exact .inr h
    · omega
  · intro g hg
    rcases a2 with h | h
    · exact hv1 g (by rw [← h, hg])
    · rw [hg] at h; injection h with h; exact .inr (by omega)
  · have h1 := hof2.mod m2 (fun g hg e => hof.ne_own hR2 (g := g) e.symm hg) (fun g hk hb hlt e => hk.2 e.symm)
    exact (h1.mod m3 (fun g hg e => by have := (hofr g hg).1; injection e with e; omega) (fun g hk hb hlt e => by injection e with e; omega)).mono (fun g hk _ _ => hk.1)
  · refine hd.apart (fun a hA hl => ?_) (Nat.le_refl _)
    have hb := hd.blk a hA hl
    exact (m3.block a.block (by have := g2.size; omega) (fun e => (hap a hA hl).1 (by injection e))).trans (m2.block a.block (by omega) (fun e => (hap a hA hl).2 e.symm))
  · intro a hA hl
    refine ⟨(hap a hA hl).1, ?_⟩
    rcases a2 with h | h
    · rw [h]; exact (hap a hA hl).2
    · have := hd.blk a hA hl
      rw [h]; intro e; injection e with e; omega
theorem feed_whole {w w4 w5 w6 : World} {base r : Nat} {v v2 v3 u : Value} {acc : List Fr} {q body : List UInt8} {A A5 : Option Addr} {c n5 c5 : Nat} {d : List UInt8} (hrw : r < w.heap.size) (hM : Mod (rdS r v) w w4) (hR : RD w4 base r v2 q 0)
    (hof : OwnF w4 w.heap.size (fun g => v2.ownBlock ≠ some g) u acc) (hd : RB w4 w.heap.size A d c) (hap : Apart A d r v2)
    (o5 : OwnB w5 w4.heap.size 5 (.slice A5 n5 c5) body) (hv3 : v3.ownBlock = v2.ownBlock) (hR5 : RD w5 base r v3 [] 0) (g5 : w4.grownBy w5 (some r)) (g6 : w5.grownBy w6 none) :
    OwnF w6 w.heap.size (fun g => v3.ownBlock ≠ some g) u acc ∧ OwnB w6 w.heap.size 5 (.slice A5 n5 c5) body ∧ (∀ g, (Value.slice A5 n5 c5).ownBlock = some g → v3.ownBlock ≠ some g) ∧ w.heap.size ≤ w6.heap.size ∧
    ∀ (w7 : World), w6.grownBy w7 u.ownBlock → RD w7 base r v3 [] 0 ∧ Mod (rdS r v) w w7 ∧ RB w7 w.heap.size A d c ∧ Apart A d r v3 := by
  have hs1 := hM.size
  have m5 : Mod (fun k => some k = some r) w4 w5 := Mod.of_grown g5
  have hvl := hR.vlt
  have of5 : OwnF w6 w.heap.size (fun g => v3.ownBlock ≠ some g) u acc := by
    have h1 := hof.mod m5 (fun g hg e => by have := (hof.lt g hg).1; injection e with e; omega) (fun g hk hb hlt e => by injection e with e; omega)
    exact (h1.none_ g6).mono (fun g hk _ _ => by rw [hv3]; exact hk)
  refine ⟨of5, (OwnB.none_ o5 g6).base_ hs1, fun g hg e => ?_, by have := g5.size; have := g6.size; omega, fun w7 g7 => ?_⟩
  · have := (World.ownsRow.lt o5 g hg).1
    have := (hvl g (by rw [← hv3, e])).2.1
    omega
  · have hR6 := hR5.made g6
    have m7 : Mod (fun k => some k = u.ownBlock) w6 w7 := Mod.of_grown g7
    refine ⟨hR6.mod m7 (fun e => of5.ne_cells hR6.2.1 (by decide) e.symm) (fun g hg e => of5.ne_own hR6.2.2 hg e.symm), ?_, ?_, fun a hA hl => by rw [hv3]; exact hap a hA hl⟩
    · exact (((hM.grown g5 (fun z hz hlt => by injection hz with hz; exact .inl hz.symm)).grown g6 (fun z hz => by cases hz)).grown g7 (fun z hz hlt => by have := (of5.lt z hz).1; omega))
    · refine hd.apart (fun a hA hl => ?_) (Nat.le_refl _)
      have hb := hd.blk a hA hl
      have e1 := m5.block a.block (by omega) (fun e => (hap a hA hl).1 (by injection e))
      have e2 := g6.block a.block (by have := g5.size; omega) (fun e => by cases e)
      have e3 := m7.block a.block (by have := g5.size; have := g6.size; omega) (fun e => by have := (of5.lt _ e.symm).1; omega)
      exact e3.trans (e2.trans e1)
/-- The cut of a slice that isn't empty. -/
theorem Apart.cut {A B : Option Addr} {d e : List UInt8} {r : Nat} {v : Value} (h : Apart A d r v) (hB : ∀ b, B = some b → 0 < e.length → 0 < d.length ∧ ∃ a, A = some a ∧ b.block = a.block) : Apart B e r v := by
  intro b hb hl
  obtain ⟨h1, a, ha, h2⟩ := hB b hb hl
  rw [h2]
  exact h a ha h1
theorem RD.dropped {w3 : World} {base r : Nat} {e : Int} (hb : base ≤ r) (c3 : CB w3 r 80 [.slice none 0 0, .int .i64 e]) : RD w3 base r (.slice none 0 0) [] e := ⟨hb, c3, OwnB.nil_ _ _ _⟩
end Go.Proofs.Ytajfaplaaafjiaa
