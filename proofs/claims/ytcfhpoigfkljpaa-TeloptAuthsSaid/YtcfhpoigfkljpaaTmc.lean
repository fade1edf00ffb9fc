/- Parts of telnet's stream, with their places, in memory. Plain lemmas. -/
import Derived.Test.YtcfhpoigfkljpaaTma
import Derived.Test.YtcfhpoigfkljpaaTlx
namespace Go.Proofs.Ytcfhpoigfkljpaa
open Go.ChangeShapes Go.WideShapes Go.RowKit

def pcells (ts : List (Tl × Nat)) (vs : List Value) : List Value := (ts.zip vs).flatMap fun p => [.int .i64 p.1.1.kind, .int .i64 p.1.1.verb, .int .i64 p.1.1.opt, p.2, .int .i64 (p.1.2 : Int)]
theorem pcells_cons (t : Tl × Nat) (ts : List (Tl × Nat)) (u : Value) (vs : List Value) : pcells (t :: ts) (u :: vs) = [.int .i64 t.1.kind, .int .i64 t.1.verb, .int .i64 t.1.opt, u, .int .i64 (t.2 : Int)] ++ pcells ts vs := rfl
theorem pcells_length : ∀ (ts : List (Tl × Nat)) (vs : List Value), vs.length = ts.length → (pcells ts vs).length = ts.length * 5
  | [], _, _ => by simp [pcells]
  | t :: ts, u :: vs, h => by
    rw [pcells_cons, List.length_append, pcells_length ts vs (by simpa using h)]
    simp
    omega
  | _ :: _, [], h => by simp at h
theorem pcells_snoc (ts : List (Tl × Nat)) (vs : List Value) (h : vs.length = ts.length) (t : Tl × Nat) (u : Value) : pcells (ts ++ [t]) (vs ++ [u]) = pcells ts vs ++ [.int .i64 t.1.kind, .int .i64 t.1.verb, .int .i64 t.1.opt, u, .int .i64 (t.2 : Int)] := by
  unfold pcells
  rw [List.zip_append h.symm]
  simp
theorem pcells_at : ∀ (ts : List (Tl × Nat)) (vs : List Value) (k : Nat) (t : Tl × Nat) (u : Value), ts[k]? = some t → vs[k]? = some u →
    (pcells ts vs)[5 * k]? = some (.int .i64 t.1.kind) ∧ (pcells ts vs)[5 * k + 1]? = some (.int .i64 t.1.verb) ∧ (pcells ts vs)[5 * k + 2]? = some (.int .i64 t.1.opt) ∧ (pcells ts vs)[5 * k + 3]? = some u ∧ (pcells ts vs)[5 * k + 4]? = some (.int .i64 (t.2 : Int))
  | t' :: ts, u' :: vs, 0, t, u, ht, hu => by simp at ht hu; subst ht hu; exact ⟨rfl, rfl, rfl, rfl, rfl⟩
  | t' :: ts, u' :: vs, k + 1, t, u, ht, hu => by
    have := pcells_at ts vs k t u (by simpa using ht) (by simpa using hu)
    exact this
  | [], _, k, t, u, ht, _ => by simp at ht
  | _ :: _, [], k, t, u, _, hu => by simp at hu
/-- A row of parts of the call's own, their data own rows too: vs. -/
structure OwnQ (w : World) (base bb : Nat) (vs : List Value) (v : Value) (ts : List (Tl × Nat)) : Prop where
  len : vs.length = ts.length
  row : w.ownsRow base 63 5 v ts.length (pcells ts vs)
  dat : ∀ (k : Nat) (t : Tl × Nat) (u : Value), ts[k]? = some t → vs[k]? = some u → OwnB w bb 5 u t.1.data
section
variable {w w' : World} {base bb : Nat} {vs : List Value} {v : Value} {ts : List (Tl × Nat)}
theorem OwnQ.nil_ (w : World) (base bb : Nat) : OwnQ w base bb [] (.slice none 0 0) [] := ⟨rfl, World.ownsRow_nil w base _ 5, fun k f u hf _ => by simp at hf⟩
theorem OwnQ.new0 (w : World) (base bb : Nat) (hb : base ≤ w.heap.size) : OwnQ (w.alloc (.cells #[] 63)) base bb [] (.slice (some ⟨w.heap.size, 0, none⟩) 0 0) [] :=
  ⟨rfl, ⟨rfl, .inr ⟨w.heap.size, 0, #[], rfl, hb, heap_alloc_new w _, Nat.le_refl _, by simp [maxLen], rfl, rfl⟩⟩, fun k f u hf _ => by simp at hf⟩
theorem OwnQ.lt (h : OwnQ w base bb vs v ts) : ∀ k, v.ownBlock = some k → base ≤ k ∧ k < w.heap.size := World.ownsRow.lt h.row
theorem OwnQ.dlt (h : OwnQ w base bb vs v ts) : ∀ u ∈ vs, ∀ g, u.ownBlock = some g → bb ≤ g ∧ g < w.heap.size := by
  intro u hu g hg
  obtain ⟨i, hi⟩ := List.mem_iff_getElem?.1 hu
  have hlt := (List.getElem?_eq_some_iff.1 hi).1
  exact World.ownsRow.lt (h.dat i _ u (List.getElem?_eq_getElem (by have := h.len; omega)) hi) g hg
theorem OwnQ.mod {S : Nat → Prop} (h : OwnQ w base bb vs v ts) (k : Mod S w w') (hv : ∀ g, v.ownBlock = some g → ¬ S g) (hu : ∀ u ∈ vs, ∀ g, u.ownBlock = some g → ¬ S g) : OwnQ w' base bb vs v ts :=
  ⟨h.len, OwnR.mod h.row k hv, fun i t u ht hu' => (h.dat i t u ht hu').mod k (hu u (List.mem_of_getElem? hu'))⟩
theorem OwnQ.none_ (h : OwnQ w base bb vs v ts) (hg : w.grownBy w' none) : OwnQ w' base bb vs v ts := h.mod (Mod.made (S := fun _ => False) hg) (fun _ _ h => h) (fun _ _ _ _ h => h)
theorem OwnQ.base_ {b' bb' : Nat} (h : OwnQ w base bb vs v ts) (hb : b' ≤ base) (hbb : bb' ≤ bb) : OwnQ w b' bb' vs v ts :=
  ⟨h.len, ⟨h.row.1, h.row.2.imp id fun ⟨g, cap, cur, hv, hg, r⟩ => ⟨g, cap, cur, hv, Nat.le_trans hb hg, r⟩⟩, fun k t u ht hu => (h.dat k t u ht hu).base_ hbb⟩
/-- The row isn't in a block of another kind. -/
theorem OwnQ.ne_cells (h : OwnQ w base bb vs v ts) {g : Nat} {t : TypeId} {cs : Array Value} {z : Nat × Nat} (hc : w.heap[g]? = some (.cells cs t z)) (hne : 63 ≠ t) : v.ownBlock ≠ some g := by
  rcases h.row.2 with ⟨rfl, _⟩ | ⟨g', _, _, rfl, _, hg', _⟩
  · simp [Value.ownBlock]
  · intro he
    have : g' = g := by simpa [Value.ownBlock] using he
    subst this
    rw [hc] at hg'
    injection hg' with hg'
    injection hg' with _ ht
    exact hne ht.symm
theorem OwnQ.ne_own (h : OwnQ w base bb vs v ts) {b : Nat} {u : Value} {l : List UInt8} (hu : OwnB w b 5 u l) {g : Nat} (hg : u.ownBlock = some g) : v.ownBlock ≠ some g := by
  obtain ⟨cs, hc⟩ := own_cells hu hg
  exact h.ne_cells hc (by decide)
theorem OwnQ.cells_at (h : OwnQ w base bb vs v ts) {k : Nat} {t : Tl × Nat} {u : Value} (ht : ts[k]? = some t) (hu : vs[k]? = some u) {g : Nat} (hg : v.ownBlock = some g) :
    w.cell? ⟨g, k * 5, none⟩ = some (.int .i64 t.1.kind) ∧ w.cell? ⟨g, k * 5 + 1, none⟩ = some (.int .i64 t.1.verb) ∧ w.cell? ⟨g, k * 5 + 2, none⟩ = some (.int .i64 t.1.opt) ∧ w.cell? ⟨g, k * 5 + 3, none⟩ = some u ∧ w.cell? ⟨g, k * 5 + 4, none⟩ = some (.int .i64 (t.2 : Int)) := by
  obtain ⟨c0, c1, c2, c3, c4⟩ := pcells_at ts vs k t u ht hu
  have e0 := h.row.cells (g := g) hg _ _ c0
  have e1 := h.row.cells (g := g) hg _ _ c1
  have e2 := h.row.cells (g := g) hg _ _ c2
  have e3 := h.row.cells (g := g) hg _ _ c3
  have e4 := h.row.cells (g := g) hg _ _ c4
  rw [Nat.mul_comm 5 k, Addr.add_lit, Nat.zero_add] at e0 e1 e2 e3 e4
  exact ⟨e0, e1, e2, e3, e4⟩
theorem OwnQ.shape (h : OwnQ w base bb vs v ts) : ∃ A cap, v = .slice A ts.length cap ∧ ts.length ≤ cap ∧ cap ≤ maxLen ∧ (∀ g, v.ownBlock = some g → A = some ⟨g, 0, none⟩) ∧ (0 < ts.length → ∃ g, v.ownBlock = some g) := by
  rcases h.row.2 with ⟨rfl, hl0⟩ | ⟨g, cap, cur, rfl, hb, hg, hc, hm, _⟩
  · have : ts = [] := List.eq_nil_of_length_eq_zero hl0
    subst this
    exact ⟨none, 0, rfl, Nat.le_refl _, Nat.zero_le _, fun g hg => by simp [Value.ownBlock] at hg, fun h => absurd h (by simp)⟩
  · exact ⟨_, cap, rfl, hc, hm, fun g' hg' => by simp [Value.ownBlock] at hg'; rw [hg'], fun _ => ⟨g, rfl⟩⟩
theorem OwnQ.blk (h : OwnQ w base bb vs v ts) {g : Nat} (hg : v.ownBlock = some g) : ∃ cs, CB w g 63 cs ∧ ts.length * 5 ≤ cs.length ∧ base ≤ g := by
  rcases h.row.2 with ⟨rfl, _⟩ | ⟨g', cap, cur, rfl, hb, hg', hc, hm, hz, ht⟩
  · simp [Value.ownBlock] at hg
  · have e : g' = g := by simpa [Value.ownBlock] using hg
    subst e
    exact ⟨_, heap_CB hg', by rw [show cur.toList.length = cap * 5 from (Array.length_toList).trans hz]; exact Nat.mul_le_mul_right 5 hc, hb⟩
end
theorem partT : (Try.prog.underlying 39 = some (.slice 63)) ∧ (Try.prog.info? 63).map (fun i => (i.zero, i.size, i.bytes)) = some (some (.agg #[.int .i64 0, .int .i64 0, .int .i64 0, .slice none 0 0, .int .i64 0]), 5, 56) := ⟨Try.underlying39, by kernel_rfl⟩

section
variable {w : World} {ops : Array Oper} {rest : List Oper} {o : Oper} {a : Act} {Q : Exit → Act → World → Prop}
/-- 'append(ts, t)'. -/
theorem run_appQ (ty : TypeId) {base bb : Nat} {vs : List Value} {v u : Value} {ts : List (Tl × Nat)} {t : Tl × Nat} {ad : Addr} {c : Nat} (hown : OwnQ w base bb vs v ts) (hu : OwnB w bb 5 u t.1.data)
    (h0 : w.cell? ad = some (.int .i64 t.1.kind)) (h1 : w.cell? (ad.add 1) = some (.int .i64 t.1.verb)) (h2 : w.cell? (ad.add 2) = some (.int .i64 t.1.opt)) (h3 : w.cell? (ad.add 3) = some u) (h4 : w.cell? (ad.add 4) = some (.int .i64 (t.2 : Int))) (hlen : ts.length ≤ 1000000000000) (hbase : base ≤ w.heap.size) :
    ∃ v' w', (Builtin.append_ #[39, 39] ty #[v, .slice (some ad) 1 c]).run Try.prog w = .ok v' w' ∧ OwnQ w' base bb (vs ++ [u]) v' (ts ++ [t]) ∧ w.grownBy w' v.ownBlock ∧ (v'.ownBlock = v.ownBlock ∨ v'.ownBlock = some w.heap.size) := by
  obtain ⟨i0, hi, hz0, hz1, hz2⟩ := info_parts partT.2
  have hone := one_own hu
  obtain ⟨v', w', hrun, ho, hg, hn, hp⟩ := run_append_own_at (P := Try.prog) w base _ ty _ i0 (.agg #[.int .i64 0, .int .i64 0, .int .i64 0, .slice none 0 0, .int .i64 0]) 5 56 partT.1 hi hz0 hz1 hz2 rfl (by decide) v ts.length (pcells ts vs) hown.row
    ad 1 c [.int .i64 t.1.kind, .int .i64 t.1.verb, .int .i64 t.1.opt, u, .int .i64 (t.2 : Int)] rfl (fun j x hx => by
      match j, hx with
      | 0, hx => simp at hx; subst hx; simpa [Addr.add] using h0
      | 1, hx => simp at hx; subst hx; exact h1
      | 2, hx => simp at hx; subst hx; exact h2
      | 3, hx => simp at hx; subst hx; exact h3
      | 4, hx => simp at hx; subst hx; exact h4
      | j + 5, hx => simp at hx) (fun x hx => by
      simp at hx
      rcases hx with rfl | rfl | rfl | rfl | rfl
      · rfl
      · rfl
      · rfl
      · exact hone
      · rfl) (by unfold maxLen; omega) (by omega) hbase
  refine ⟨v', w', hrun, ⟨by simp [hown.len], ?_, fun k t' u' ht hu' => ?_⟩, hg, hp⟩
  · rw [pcells_snoc ts vs hown.len, List.length_append]
    exact ho
  · by_cases hk : k < ts.length
    · rw [List.getElem?_append_left hk] at ht
      rw [List.getElem?_append_left (by have := hown.len; omega)] at hu'
      have hd := hown.dat k t' u' ht hu'
      exact World.ownsRow.kept hd hg (own_ne hown.row hd (by decide))
    · have hk' : k = ts.length := by
        have := (List.getElem?_eq_some_iff.1 ht).1
        simp at this
        omega
      subst hk'
      rw [List.getElem?_append_right (Nat.le_refl _)] at ht
      rw [← hown.len, List.getElem?_append_right (Nat.le_refl _)] at hu'
      simp at ht hu'
      subst ht hu'
      exact World.ownsRow.kept hu hg (own_ne hown.row hu (by decide))
theorem wpList_appQ (hgd : o.guard = none) (s x : Operand)
    (ho : o.op = .call { callee := .builtin .append, args := #[s, x], argTypes := #[39, 39] })
    {base bb : Nat} {vs : List Value} {v u : Value} {ts : List (Tl × Nat)} {t : Tl × Nat} {ad : Addr} {c : Nat} (hown : OwnQ w base bb vs v ts) (hu : OwnB w bb 5 u t.1.data)
    (h0 : w.cell? ad = some (.int .i64 t.1.kind)) (h1 : w.cell? (ad.add 1) = some (.int .i64 t.1.verb)) (h2 : w.cell? (ad.add 2) = some (.int .i64 t.1.opt)) (h3 : w.cell? (ad.add 3) = some u) (h4 : w.cell? (ad.add 4) = some (.int .i64 (t.2 : Int)))
    (hs : a.eval s = v) (hx : a.eval x = .slice (some ad) 1 c) (hlen : ts.length ≤ 1000000000000) (hbase : base ≤ w.heap.size)
    (h : ∀ v' w', OwnQ w' base bb (vs ++ [u]) v' (ts ++ [t]) → w.grownBy w' v.ownBlock → (v'.ownBlock = v.ownBlock ∨ v'.ownBlock = some w.heap.size) → wpList Try.prog ops Q rest (a.put o.dst v') w') : wpList Try.prog ops Q (o :: rest) a w := by
  refine wpList_plain hgd fun K1 hK1 => ?_
  obtain ⟨v', w', hrun, k2, k3, k5⟩ := run_appQ (c := c) o.type hown hu h0 h1 h2 h3 h4 hlen hbase
  unfold Oper.wp execOp
  simp only [ho, resolve, invoke, builtin, Sem.run_bind, Sem.run_pure, Result.andThen_ok, List.map_toArray, List.map_cons, List.map_nil, hs, hx]
  rw [hrun]
  exact hK1 _ _ (h v' w' k2 k3 k5)
end

theorem four_off {w : World} {g o : Nat} {cs : List Value} {a b c d : Value} {t : TypeId} (h : CB w g t cs) (h0 : w.cell? ⟨g, o, none⟩ = some a) (h1 : w.cell? ⟨g, o + 1, none⟩ = some b) (h2 : w.cell? ⟨g, o + 2, none⟩ = some c) (h3 : w.cell? ⟨g, o + 3, none⟩ = some d) :
    (cs.drop o).take 4 = [a, b, c, d] ∧ o + 4 ≤ cs.length := by
  have e : ∀ i v, w.cell? ⟨g, i, none⟩ = some v → cs[i]? = some v := by
    intro i v hv
    rw [cell_of_row w g i _ t (0, 0) h, List.getElem?_toArray] at hv
    exact hv
  have e0 := e _ _ h0
  have e1 := e _ _ h1
  have e2 := e _ _ h2
  have e3 := e _ _ h3
  have hl := (List.getElem?_eq_some_iff.1 e3).1
  refine ⟨List.ext_getElem? (fun i => ?_), by omega⟩
  match i with
  | 0 => rw [List.getElem?_take_of_lt (by omega), List.getElem?_drop]; exact e0
  | 1 => rw [List.getElem?_take_of_lt (by omega), List.getElem?_drop]; exact e1
  | 2 => rw [List.getElem?_take_of_lt (by omega), List.getElem?_drop]; exact e2
  | 3 => rw [List.getElem?_take_of_lt (by omega), List.getElem?_drop]; exact e3
  | i + 4 => rw [List.getElem?_eq_none (by rw [List.length_take]; omega)]; simp
end Go.Proofs.Ytcfhpoigfkljpaa
