/- Rows of frames whose bodies lie elsewhere; frames put behind frames. Plain lemmas. -/
import Derived.Test.YtajfaplaaafjiaaFsW
namespace Go.Proofs.Ytajfaplaaafjiaa
open Go.RowKit

/-- A row of frames of the call's own, the bodies in blocks below B. -/
def RowF (w : World) (base B : Nat) (v : Value) (fs : List Fr) : Prop :=
  ∃ vs : List Value, vs.length = fs.length ∧ w.ownsRow base 24 2 v fs.length (fcells fs vs) ∧ ∀ (k : Nat) (f : Fr) (u : Value), fs[k]? = some f → vs[k]? = some u → ∃ V c, u = .slice V f.2.length c ∧ RB w B V f.2 c

theorem RowF.new0 (w : World) (base B : Nat) (hb : base ≤ w.heap.size) : RowF (w.alloc (.cells #[] 24)) base B (.slice (some ⟨w.heap.size, 0, none⟩) 0 0) [] :=
  ⟨[], rfl, ⟨rfl, .inr ⟨w.heap.size, 0, #[], rfl, hb, heap_alloc_new w _, Nat.le_refl _, by simp [maxLen], rfl, rfl⟩⟩, fun k f u hf _ => by simp at hf⟩
section
variable {w w' : World} {base B : Nat} {v : Value} {fs : List Fr}
theorem RowF.lt (h : RowF w base B v fs) : ∀ k, v.ownBlock = some k → base ≤ k ∧ k < w.heap.size := by
  obtain ⟨vs, h1, h2, h3⟩ := h
  exact World.ownsRow.lt h2
theorem RowF.shape (h : RowF w base B v fs) (hB : B ≤ w.heap.size) : ∃ A cap, v = .slice A fs.length cap ∧ RF w w.heap.size A fs cap := by
  obtain ⟨vs, h1, h2, h3⟩ := h
  rcases h2.2 with ⟨rfl, hl⟩ | ⟨g, cap, cur, rfl, hb, hg, hc, hm, _⟩
  · refine ⟨none, 0, by rw [hl], ?_⟩
    have : fs = [] := List.eq_nil_of_length_eq_zero hl
    subst this
    exact RF.nil_ _ _
  · refine ⟨_, cap, rfl, hc, hm, .inr ⟨_, rfl, fun k f hf => ?_⟩⟩
    have hk : k < vs.length := by rw [h1]; exact (List.getElem?_eq_some_iff.1 hf).1
    have hu := List.getElem?_eq_getElem hk
    obtain ⟨c0, c1⟩ := fcells_at fs vs k f _ hf hu
    obtain ⟨V, c, hV, hr⟩ := h3 k f _ hf hu
    refine ⟨(Array.getElem?_eq_some_iff.1 hg).1, h2.cells (g := g) rfl _ _ c0, V, c, ?_, hr.more hB⟩
    rw [← hV]
    exact h2.cells (g := g) rfl _ _ c1
end

section
variable {w w' : World} {base B : Nat} {v : Value} {fs : List Fr}
theorem RowF.mod {S : Nat → Prop} (h : RowF w base B v fs) (k : Mod S w w') (hv : ∀ g, v.ownBlock = some g → ¬ S g) (hB : B ≤ w.heap.size) (hs : ∀ g, g < B → ¬ S g) : RowF w' base B v fs := by
  obtain ⟨vs, h1, h2, h3⟩ := h
  refine ⟨vs, h1, OwnR.mod h2 k hv, fun i f u hf hu => ?_⟩
  obtain ⟨V, c, h4, h5⟩ := h3 i f u hf hu
  exact ⟨V, c, h4, h5.mod k hB hs⟩
theorem RowF.ne_cells (h : RowF w base B v fs) {g : Nat} {t : TypeId} {cs : Array Value} {z : Nat × Nat} (hc : w.heap[g]? = some (.cells cs t z)) (hne : 24 ≠ t) : v.ownBlock ≠ some g := by
  obtain ⟨vs, h1, h2, h3⟩ := h
  rcases h2.2 with ⟨rfl, _⟩ | ⟨g', _, _, rfl, _, hg', _⟩
  · simp [Value.ownBlock]
  · intro he
    have : g' = g := by simpa [Value.ownBlock] using he
    subst this
    rw [hc] at hg'
    injection hg' with hg'
    injection hg' with _ ht
    exact hne ht.symm
theorem own_cells {b : Nat} {u : Value} {l : List UInt8} (hu : OwnB w b 5 u l) {g : Nat} (hg : u.ownBlock = some g) : ∃ cs, w.heap[g]? = some (.cells cs 5 (0, 0)) := by
  rcases hu.2 with ⟨rfl, _⟩ | ⟨g', _, cur, rfl, _, hg', _⟩
  · simp [Value.ownBlock] at hg
  · have : g' = g := by simpa [Value.ownBlock] using hg
    subst this
    exact ⟨cur, hg'⟩
theorem RowF.ne_own (h : RowF w base B v fs) {b : Nat} {u : Value} {l : List UInt8} (hu : OwnB w b 5 u l) {g : Nat} (hg : u.ownBlock = some g) : v.ownBlock ≠ some g := by
  obtain ⟨cs, h1⟩ := own_cells hu hg
  exact h.ne_cells h1 (by decide)
end
/-- 'append(fs, f)', the body lies elsewhere. -/
theorem run_appR {w : World} (ty : TypeId) {base B : Nat} {v : Value} {fs : List Fr} {f : Fr} {ad : Addr} {c c' : Nat} {V : Option Addr} (hown : RowF w base B v fs) (hr : RB w B V f.2 c')
    (h0 : w.cell? ad = some (.int .i64 f.1)) (h1 : w.cell? (ad.add 1) = some (.slice V f.2.length c')) (hlen : fs.length ≤ 1000000000000) (hbase : base ≤ w.heap.size) (hB : B ≤ base) :
    ∃ v' w', (Builtin.append_ #[33, 33] ty #[v, .slice (some ad) 1 c]).run Try.prog w = .ok v' w' ∧ RowF w' base B v' (fs ++ [f]) ∧ w.grownBy w' v.ownBlock ∧ (v'.ownBlock = v.ownBlock ∨ v'.ownBlock = some w.heap.size) := by
  obtain ⟨vs, hl, hrow, hvs⟩ := hown
  obtain ⟨i0, hi, hz0, hz1, hz2⟩ := info_parts frameT.hi
  obtain ⟨v', w', hrun, ho, hg, hn, hp⟩ := run_append_own_at (P := Try.prog) w base _ ty _ i0 (.agg #[.int .i64 0, .slice none 0 0]) 2 32 frameT.ht hi hz0 hz1 hz2 rfl (by decide) v fs.length (fcells fs vs) hrow
    ad 1 c [.int .i64 f.1, .slice V f.2.length c'] rfl (fun j x hx => by
      match j, hx with
      | 0, hx => simp at hx; subst hx; simpa [Addr.add] using h0
      | 1, hx => simp at hx; subst hx; exact h1
      | j + 2, hx => simp at hx) (fun x hx => by
      simp at hx
      rcases hx with rfl | rfl <;> rfl) (by unfold maxLen; omega) (by omega) hbase
  have hkeep : ∀ {V : Option Addr} {l : List UInt8} {cc : Nat}, RB w B V l cc → RB w' B V l cc := fun h =>
    h.grown hg (Nat.le_trans hB hbase) (fun g hgk => Nat.le_trans hB (World.ownsRow.lt hrow g hgk).1)
  refine ⟨v', w', hrun, ⟨vs ++ [.slice V f.2.length c'], by simp [hl], ?_, fun k f' u' hf hu' => ?_⟩, hg, hp⟩
  · rw [fcells_snoc fs vs hl, List.length_append]
    exact ho
  · by_cases hk : k < fs.length
    · rw [List.getElem?_append_left hk] at hf
      rw [List.getElem?_append_left (by omega)] at hu'
      obtain ⟨V2, c2, h4, h5⟩ := hvs k f' u' hf hu'
      exact ⟨V2, c2, h4, hkeep h5⟩
    · have hk' : k = fs.length := by
        have := (List.getElem?_eq_some_iff.1 hf).1
        simp at this
        omega
      subst hk'
      rw [List.getElem?_append_right (Nat.le_refl _)] at hf
      rw [← hl, List.getElem?_append_right (Nat.le_refl _)] at hu'
      simp at hf hu'
      subst hf hu'
      exact ⟨V, c', rfl, hkeep hr⟩
theorem wp_appRD {w : World} {o : Oper} {d : Option Tmp} {a : Act} {K : Act → World → Prop} {Q : Exit → Act → World → Prop} (hd : o.dst = d) (s x : Operand)
    (ho : o.op = .call { callee := .builtin .append, args := #[s, x], argTypes := #[33, 33] })
    {base B : Nat} {v : Value} {fs : List Fr} {f : Fr} {ad : Addr} {c c' : Nat} {V : Option Addr} (hown : RowF w base B v fs) (hr : RB w B V f.2 c')
    (h0 : w.cell? ad = some (.int .i64 f.1)) (h1 : w.cell? (ad.add 1) = some (.slice V f.2.length c'))
    (hs : a.eval s = v) (hx : a.eval x = .slice (some ad) 1 c) (hlen : fs.length ≤ 1000000000000) (hbase : base ≤ w.heap.size) (hB : B ≤ base)
    (h : ∀ v' w', RowF w' base B v' (fs ++ [f]) → w.grownBy w' v.ownBlock → (v'.ownBlock = v.ownBlock ∨ v'.ownBlock = some w.heap.size) → K (a.put d v') w') : o.wp Try.prog a w K Q := by
  subst hd
  obtain ⟨v', w', hrun, h2, h3, h5⟩ := run_appR (c := c) o.type hown hr h0 h1 hlen hbase hB
  unfold Oper.wp execOp
  simp only [ho, resolve, invoke, builtin, Sem.run_bind, Sem.run_pure, Result.andThen_ok, List.map_toArray, List.map_cons, List.map_nil, hs, hx]
  rw [hrun]
  exact h v' w' h2 h3 h5
/-- 'append(fs, gs...)', both own rows with own bodies. -/
theorem run_appOO {w : World} (ty : TypeId) {base base2 : Nat} {K : Nat → Prop} {v : Value} {fs gs : List Fr} {A : Option Addr} {c : Nat} (hown : OwnF w base K v fs) (hg2 : OwnF w base2 K (.slice A gs.length c) gs) (hb2 : base ≤ base2)
    (hlen : fs.length + gs.length ≤ 1000000000000) (hbase : base ≤ w.heap.size) :
    ∃ v' w', (Builtin.append_ #[33, 33] ty #[v, .slice A gs.length c]).run Try.prog w = .ok v' w' ∧ OwnF w' base K v' (fs ++ gs) ∧ w.grownBy w' v.ownBlock ∧ (v'.ownBlock = v.ownBlock ∨ v'.ownBlock = some w.heap.size) := by
  obtain ⟨vs, hl, hrow, hvs⟩ := hown
  obtain ⟨us, hul, hurow, huv⟩ := hg2
  obtain ⟨i0, hi, hz0, hz1, hz2⟩ := info_parts frameT.hi
  cases A with
  | none =>
    have h0 : c = 0 ∧ gs = [] := by
      rcases hurow.2 with ⟨hv, h⟩ | ⟨g, _, _, hv, _⟩
      · injection hv with _ h1 h2
        exact ⟨h2, List.eq_nil_of_length_eq_zero h1⟩
      · injection hv with h1; cases h1
    obtain ⟨rfl, rfl⟩ := h0
    refine ⟨v, w, run_append_owned_none (P := Try.prog) (w := w) base _ ty _ i0 2 frameT.ht hi v fs.length (fcells fs vs) hrow, ⟨vs, by simpa using hl, by simpa using hrow, by simpa using hvs⟩, World.grownBy.refl w _, .inl rfl⟩
  | some ad =>
    have hone : ∀ x ∈ fcells gs us, x.oneCell' = true := by
      intro x hx
      obtain ⟨j, hj⟩ := List.mem_iff_getElem?.1 hx
      obtain ⟨k, f, u, hf, hu, h⟩ := fcells_get _ _ _ _ hj
      rcases h with ⟨_, rfl⟩ | ⟨_, rfl⟩
      · rfl
      · obtain ⟨V, cc, rfl, _⟩ := (huv k f _ hf hu).1.shape
        rfl
    have hcell : ∀ (j : Nat) (x : Value), (fcells gs us)[j]? = some x → w.cell? (ad.add j) = some x := by
      intro j x hx
      rcases hurow.2 with ⟨hv, h⟩ | ⟨g, cap, cur, hv, _⟩
      · simp at hv
      · simp only [Value.slice.injEq, Option.some.injEq] at hv
        obtain ⟨h1, _, _⟩ := hv
        subst h1
        exact hurow.cells (g := g) rfl j x hx
    obtain ⟨v', w', hrun, ho, hg, hn, hp⟩ := run_append_own_at (P := Try.prog) w base _ ty _ i0 (.agg #[.int .i64 0, .slice none 0 0]) 2 32 frameT.ht hi hz0 hz1 hz2 rfl (by decide) v fs.length (fcells fs vs) hrow
      ad gs.length c (fcells gs us) (fcells_length gs us hul) hcell hone (by unfold maxLen; omega) (by omega) hbase
    refine ⟨v', w', hrun, ⟨vs ++ us, by simp [hl, hul], ?_, fun k f u hf hu => ?_⟩, hg, hp⟩
    · rw [fcells_append fs gs vs us hl, List.length_append]
      exact ho
    · by_cases hk : k < fs.length
      · rw [List.getElem?_append_left hk] at hf
        rw [List.getElem?_append_left (by omega)] at hu
        obtain ⟨h2, h3⟩ := hvs k f u hf hu
        exact ⟨World.ownsRow.kept h2 hg (own_ne hrow h2 (by decide)), h3⟩
      · rw [List.getElem?_append_right (by omega)] at hf
        rw [List.getElem?_append_right (by omega), hl] at hu
        obtain ⟨h2, h3⟩ := huv _ f u hf hu
        exact ⟨OwnB.base_ (World.ownsRow.kept h2 hg (own_ne hrow h2 (by decide))) hb2, h3⟩
theorem wp_appOOD {w : World} {o : Oper} {d : Option Tmp} {a : Act} {K : Act → World → Prop} {Q : Exit → Act → World → Prop} (hd : o.dst = d) (s x : Operand)
    (ho : o.op = .call { callee := .builtin .append, args := #[s, x], argTypes := #[33, 33] })
    {base base2 : Nat} {Kk : Nat → Prop} {v : Value} {fs gs : List Fr} {A : Option Addr} {c : Nat} (hown : OwnF w base Kk v fs) (hg2 : OwnF w base2 Kk (.slice A gs.length c) gs) (hb2 : base ≤ base2)
    (hs : a.eval s = v) (hx : a.eval x = .slice A gs.length c) (hlen : fs.length + gs.length ≤ 1000000000000) (hbase : base ≤ w.heap.size)
    (h : ∀ v' w', OwnF w' base Kk v' (fs ++ gs) → w.grownBy w' v.ownBlock → (v'.ownBlock = v.ownBlock ∨ v'.ownBlock = some w.heap.size) → K (a.put d v') w') : o.wp Try.prog a w K Q := by
  subst hd
  obtain ⟨v', w', hrun, h2, h3, h5⟩ := run_appOO (c := c) o.type hown hg2 hb2 hlen hbase
  unfold Oper.wp execOp
  simp only [ho, resolve, invoke, builtin, Sem.run_bind, Sem.run_pure, Result.andThen_ok, List.map_toArray, List.map_cons, List.map_nil, hs, hx]
  rw [hrun]
  exact h v' w' h2 h3 h5

/-- Written right, in pieces: what stands while frames are written, one behind the other. -/
structure Pc (w x : World) (r g : Nat) (cs : List Value) (vb : Value) (bs : List UInt8) (va : Value) (bb : List UInt8) (vr : Value) (fs : List Fr) : Prop where
  gr : w.grownBy x none
  rd : RD x w.heap.size r (.slice none 0 0) [] 0
  var : CB x g 24 cs
  gge : w.heap.size ≤ g
  b : OwnB x w.heap.size 5 vb bs
  al : OwnB x w.heap.size 5 va bb
  ri : RowF x w.heap.size w.heap.size vr fs
  ne : ∀ z, vb.ownBlock = some z → va.ownBlock ≠ some z
  nr : vr.ownBlock ≠ some g
section
variable {w x y : World} {r g : Nat} {cs : List Value} {vb va va' vr vr' : Value} {bs bb bb' : List UInt8} {fs fs' : List Fr}
theorem Pc.made (h : Pc w x r g cs vb bs va bb vr fs) (hg : x.grownBy y none) : Pc w y r g cs vb bs va bb vr fs :=
  ⟨grown_trans' h.gr hg, h.rd.made hg, h.var.kept hg, h.gge, h.b.none_ hg, h.al.none_ hg, h.ri.mod (Mod.made (S := fun _ => False) hg) (fun _ _ h => h) h.gr.size (fun _ _ h => h), h.ne, h.nr⟩
theorem Pc.al_ (h : Pc w x r g cs vb bs va bb vr fs) (ho : OwnB y w.heap.size 5 va' bb') (hg : x.grownBy y va.ownBlock) (ha : va'.ownBlock = va.ownBlock ∨ va'.ownBlock = some x.heap.size) : Pc w y r g cs vb bs va' bb' vr fs := by
  have m : Mod (fun k => some k = va.ownBlock) x y := Mod.of_grown hg
  have hlt := h.al.lt
  refine ⟨⟨hg.os.trans h.gr.os, hg.tape.trans h.gr.tape, hg.output.trans h.gr.output, Nat.le_trans h.gr.size hg.size, fun k hk hn => (hg.block k (Nat.lt_of_lt_of_le hk h.gr.size) (fun e => by have := (hlt k e.symm).1; omega)).trans (h.gr.block k hk hn)⟩,
    h.rd.mod m (fun e => h.al.ne_cells h.rd.2.1 (by decide) e.symm) (fun z hz => by simp [Value.ownBlock] at hz), h.var.mod m (fun e => h.al.ne_cells h.var (by decide) e.symm), h.gge, OwnB.mod h.b m (fun z hz e => h.ne z hz e.symm), ho, h.ri.mod m (fun z hz e => h.ri.ne_own h.al e.symm hz) h.gr.size (fun z hz e => by have := (hlt z e.symm).1; omega), fun z hz => ?_, h.nr⟩
  rcases ha with e | e
  · rw [e]; exact h.ne z hz
  · rw [e]; have := (h.b.lt z hz).2; intro e2; injection e2 with e2; omega
theorem Pc.right (h : Pc w x r g cs vb bs va bb vr fs) (ho : RowF y w.heap.size w.heap.size vr' fs') (hg : x.grownBy y vr.ownBlock) (ha : vr'.ownBlock = vr.ownBlock ∨ vr'.ownBlock = some x.heap.size) : Pc w y r g cs vb bs va bb vr' fs' := by
  have m : Mod (fun k => some k = vr.ownBlock) x y := Mod.of_grown hg
  have hlt := h.ri.lt
  refine ⟨⟨hg.os.trans h.gr.os, hg.tape.trans h.gr.tape, hg.output.trans h.gr.output, Nat.le_trans h.gr.size hg.size, fun k hk hn => (hg.block k (Nat.lt_of_lt_of_le hk h.gr.size) (fun e => by have := (hlt k e.symm).1; omega)).trans (h.gr.block k hk hn)⟩,
    h.rd.mod m (fun e => h.ri.ne_cells h.rd.2.1 (by decide) e.symm) (fun z hz => by simp [Value.ownBlock] at hz), h.var.mod m (fun e => h.nr e.symm), h.gge, OwnB.mod h.b m (fun z hz e => h.ri.ne_own h.b hz e.symm), OwnB.mod h.al m (fun z hz e => h.ri.ne_own h.al hz e.symm), ho, h.ne, ?_⟩
  rcases ha with e | e
  · rw [e]; exact h.nr
  · rw [e]; have := h.var.lt; intro e2; injection e2 with e2; omega
end
/-! Numbers in memory. -/
def RI (w : World) (B : Nat) (A : Option Addr) (l : List Int) (cap : Nat) : Prop :=
  l.length ≤ cap ∧ cap ≤ maxLen ∧ ((A = none ∧ cap = 0) ∨ ∃ a, A = some a ∧ ∀ k u, l[k]? = some u → a.block < B ∧ w.cell? (a.add k) = some (.int .i64 u))

section
variable {w w' : World} {B B' cap : Nat} {A : Option Addr} {l : List Int}
theorem RI.nil_ (w : World) (B : Nat) : RI w B none [] 0 := ⟨Nat.le_refl _, Nat.zero_le _, .inl ⟨rfl, rfl⟩⟩
theorem RI.keep (h : RI w B A l cap) (hk : ∀ a : Addr, a.block < B → w'.cell? a = w.cell? a) : RI w' B A l cap :=
  ⟨h.1, h.2.1, h.2.2.imp id fun ⟨a, hA, hc⟩ => ⟨a, hA, fun k u hu => ⟨(hc k u hu).1, (hk _ (by rw [add_block]; exact (hc k u hu).1)).trans (hc k u hu).2⟩⟩⟩
theorem RI.more (h : RI w B A l cap) (hB : B ≤ B') : RI w B' A l cap :=
  ⟨h.1, h.2.1, h.2.2.imp id fun ⟨a, hA, hc⟩ => ⟨a, hA, fun k u hu => ⟨Nat.lt_of_lt_of_le (hc k u hu).1 hB, (hc k u hu).2⟩⟩⟩
theorem RI.below (h : RI w B A l cap) (hb : Below B w w') : RI w' B A l cap := h.keep fun _ hlt => hb.cell hlt
theorem RI.open_ (h : RI w B A l cap) (hp : 0 < l.length) :
    ∃ b off, A = some ⟨b, off, none⟩ ∧ b < B ∧ ∀ k (hk : k < l.length), w.cell? ⟨b, off + k, none⟩ = some (.int .i64 l[k]) := by
  rcases h.2.2 with ⟨_, h0⟩ | ⟨⟨b, off, s⟩, hA, hc⟩
  · have := h.1; omega
  · have hb := (hc 0 _ (List.getElem?_eq_getElem hp)).1
    have h0 := (hc 0 _ (List.getElem?_eq_getElem hp)).2
    have hs : s = none := by simpa [Addr.add] using World.cell?_spot h0
    subst hs
    exact ⟨b, off, hA, hb, fun k hk => by have := (hc k _ (List.getElem?_eq_getElem hk)).2; rwa [Addr.add_lit] at this⟩
theorem RI.of_ints {zs : List Int} {len : Nat}
    (h : (A = none ∧ len = 0 ∧ cap = 0 ∧ zs = []) ∨ ∃ x, A = some x ∧ len ≤ cap ∧ cap ≤ maxLen ∧ zs.length = cap ∧ (∀ i, i < zs.length → w.cell? (x.add i) = some (.int .i64 (zs.getD i 0))) ∧ ∀ n ∈ zs, (Lit.int .i64 n).wf = true) :
    ∃ l : List Int, l.length = len ∧ RI w w.heap.size A l cap := by
  rcases h with ⟨rfl, rfl, rfl, rfl⟩ | ⟨x, rfl, hl, hm, hz, hc, _⟩
  · exact ⟨[], rfl, RI.nil_ _ _⟩
  · have hlen : (zs.take len).length = len := by simp; omega
    refine ⟨zs.take len, hlen, by omega, hm, .inr ⟨x, rfl, fun k u hu => ?_⟩⟩
    have hk : k < len := by rw [← hlen]; exact (List.getElem?_eq_some_iff.1 hu).1
    have hcell := hc k (by omega)
    rw [List.getElem?_take_of_lt hk, List.getElem?_eq_getElem (by omega)] at hu
    have hb : zs.getD k 0 = zs[k]'(by omega) := by simp [List.getD, List.getElem?_eq_getElem (show k < zs.length by omega)]
    rw [hb] at hcell
    have hlt := World.block_lt_of_cell? w _ hcell
    rw [add_block] at hlt
    simp only [Option.some.injEq] at hu
    subst hu
    exact ⟨hlt, hcell⟩
end

theorem and_low (k : Int) (j : Nat) (hj : j ≤ 62) : ∃ m : Nat, m < 2 ^ j ∧ bits .and .i64 k ((2 ^ j - 1 : Nat) : Int) = (m : Int) := by
  have hp : 2 ^ j ≤ 2 ^ 62 := Nat.pow_le_pow_right (by decide) hj
  have h2 : (2 : Nat) ^ 62 = 4611686018427387904 := by decide
  refine ⟨(BitVec.ofInt 64 k).toNat % 2 ^ j, Nat.mod_lt _ (Nat.two_pow_pos j), ?_⟩
  have hb : (BitVec.ofInt 64 (((2 ^ j - 1 : Nat) : Int))).toNat = 2 ^ j - 1 := by
    rw [BitVec.ofInt_natCast, BitVec.toNat_ofNat]
    exact Nat.mod_eq_of_lt (by omega)
  have hm := Nat.mod_lt (BitVec.ofInt 64 k).toNat (Nat.two_pow_pos j)
  show IntKind.i64.wrap (((BitVec.ofInt 64 k &&& BitVec.ofInt 64 ((2 ^ j - 1 : Nat) : Int)).toNat : Nat) : Int) = _
  rw [BitVec.toNat_and, hb, Nat.and_two_pow_sub_one_eq_mod, IntKind.wrap_i64]
  omega

end Go.Proofs.Ytajfaplaaafjiaa
