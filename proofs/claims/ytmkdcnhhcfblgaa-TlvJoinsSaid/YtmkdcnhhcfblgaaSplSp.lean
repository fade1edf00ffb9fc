/- The walk of spoil: it writes into its argument alone. -/
import Derived.Test.YtmkdcnhhcfblgaaRSpW
namespace Go.Proofs.Ytmkdcnhhcfblgaa
open Go.RowKit

def pokedOne (g k : Nat) (u : UInt8) (p : Fd × Value) : Fd := (p.1.1, if p.2.ownBlock = some g then p.1.2.set k u else p.1.2)

theorem zip_at {α β : Type} (a : List α) (b : List β) (j : Nat) (x : α) (y : β) (h : a[j]? = some x) (k : b[j]? = some y) : (a.zip b)[j]? = some (x, y) := by
  rw [List.getElem?_zip_eq_some]; exact ⟨h, k⟩

theorem fcells_poked (g k : Nat) (u : UInt8) : ∀ (fs : List Fd) (vs : List Value), fcells ((fs.zip vs).map (pokedOne g k u)) vs = fcells fs vs
  | [], _ => by simp [fcells]
  | _ :: _, [] => by simp [fcells]
  | f :: fs, v :: vs => by
    have := fcells_poked g k u fs vs
    simp only [fcells, List.zip_cons_cons, List.map_cons, List.flatMap_cons] at this ⊢
    rw [this]
    rfl

/-- 'OwnF', and all its blocks lie below hi. -/
def OwnFh (w : World) (base hi : Nat) (tF tB : TypeId) (v : Value) (fs : List Fd) : Prop :=
  ∃ vs : List Value, vs.length = fs.length ∧ w.ownsRow base tF 2 v fs.length (fcells fs vs) ∧ (∀ (k : Nat) (f : Fd) (u : Value), fs[k]? = some f → vs[k]? = some u → OwnB w base tB u f.2) ∧
    (∀ u ∈ vs, ∀ k, u.ownBlock = some k → k < hi) ∧ ∀ k, v.ownBlock = some k → k < hi
theorem OwnF.toh {w : World} {base : Nat} {tF tB : TypeId} {v : Value} {fs : List Fd} (h : OwnF w base tF tB v fs) : OwnFh w base w.heap.size tF tB v fs := by
  obtain ⟨vs, h1, h2, h3⟩ := h
  refine ⟨vs, h1, h2, h3, fun u hu k hk => ?_, fun k hk => (World.ownsRow.lt h2 k hk).2⟩
  obtain ⟨j, hj⟩ := List.mem_iff_getElem?.1 hu
  have hjl := (List.getElem?_eq_some_iff.1 hj).1
  exact (World.ownsRow.lt (h3 j _ u (List.getElem?_eq_getElem (by omega)) hj) k hk).2
theorem OwnFh.below {w w' : World} {base hi : Nat} {tF tB : TypeId} {v : Value} {fs : List Fd} (h : OwnFh w base hi tF tB v fs) (hb : Below w.heap.size w w') : OwnFh w' base hi tF tB v fs := by
  obtain ⟨vs, h1, h2, h3, h4⟩ := h
  exact ⟨vs, h1, World.ownsRow.kept (row := none) h2 ⟨hb.os, hb.tape, hb.output, hb.size, fun k hk _ => hb.block k hk⟩ (by cases hv : v.ownBlock <;> simp), fun k f u hf hu => (h3 k f u hf hu).below hb, h4⟩

section
variable {w : World} {base hi : Nat} {tF tB : TypeId} {v : Value} {fs : List Fd}
/-- A byte of one of the values is written. -/
theorem OwnFh.poke (h : OwnFh w base hi tF tB v fs) (hne : tF ≠ tB) {g k : Nat} {x : Int} (u : UInt8) (hx : x = (u.toNat : Int)) {cs : Array Value} (hg : w.heap[g]? = some (.cells cs tB (0, 0))) :
    ∃ fs' : List Fd, OwnFh (w.setCell ⟨g, k, none⟩ (.int .u8 x)) base hi tF tB v fs' ∧ fs'.length = fs.length ∧ ∀ (j : Nat) (f f' : Fd), fs[j]? = some f → fs'[j]? = some f' → f'.2.length = f.2.length := by
  obtain ⟨vs, hl, hrow, hvs, hhi⟩ := h
  have hlen : ((fs.zip vs).map (pokedOne g k u)).length = fs.length := by rw [List.length_map, List.length_zip]; omega
  have hgr : w.grownBy (w.setCell ⟨g, k, none⟩ (.int .u8 x)) (some g) := grown_set w g k _
  refine ⟨(fs.zip vs).map (pokedOne g k u), ⟨vs, by rw [hlen, hl], ?_, fun j f' y hf hy => ?_, hhi⟩, hlen, fun j f f' hf hf' => ?_⟩
  · rw [hlen, fcells_poked]
    refine World.ownsRow.kept hrow hgr ?_
    rcases hrow.2 with ⟨rfl, _⟩ | ⟨g', _, _, rfl, _, hg', _⟩
    · exact .inl rfl
    · right
      intro he
      have : g' = g := by simpa [Value.ownBlock] using he
      subst this
      rw [hg] at hg'
      injection hg' with hg'
      injection hg' with _ ht
      exact hne ht.symm
  · rw [List.getElem?_map] at hf
    obtain ⟨⟨f, y'⟩, hz, rfl⟩ := Option.map_eq_some_iff.1 hf
    rw [List.getElem?_zip_eq_some] at hz
    obtain ⟨hf0, hy0⟩ := hz
    rw [hy] at hy0
    injection hy0 with hy0
    subst hy0
    have h0 := hvs j f y hf0 hy
    unfold pokedOne
    by_cases hb : y.ownBlock = some g
    · simp only [hb, if_true]
      rcases h0.2 with ⟨rfl, _⟩ | ⟨g', cap, cur, rfl, _⟩
      · simp [Value.ownBlock] at hb
      · have : g' = g := by simpa [Value.ownBlock] using hb
        subst this
        have hst := (World.ownsRow.stored h0 k (.int .u8 x)).1
        rw [bcells_set _ _ u _ hx] at hst
        unfold OwnB
        rw [List.length_set]
        exact hst
    · simp only [hb, if_false]
      exact World.ownsRow.kept h0 hgr (.inr hb)
  · rw [List.getElem?_map] at hf'
    obtain ⟨⟨f0, y'⟩, hz, rfl⟩ := Option.map_eq_some_iff.1 hf'
    rw [List.getElem?_zip_eq_some] at hz
    rw [hf] at hz
    have : f = f0 := by injection hz.1
    subst this
    unfold pokedOne
    split <;> simp
theorem fcells_tag : ∀ (fs : List Fd) (vs : List Value) (k : Nat) (f : Fd) (t : Int), fs[k]? = some f → (fcells fs vs).set (2 * k) (.int .i64 t) = fcells (fs.set k (t, f.2)) vs
  | f' :: fs, u' :: vs, 0, f, t, hf => by simp [fcells]
  | f' :: fs, u' :: vs, k + 1, f, t, hf => by
    have := fcells_tag fs vs k f t (by simpa using hf)
    show (Value.int .i64 f'.1 :: u' :: fcells fs vs).set (2 * k + 1 + 1) _ = Value.int .i64 f'.1 :: u' :: fcells (fs.set k (t, f.2)) vs
    rw [List.set_cons_succ, List.set_cons_succ, this]
  | [], _, k, f, t, hf => by simp at hf
  | _ :: _, [], k, f, t, hf => by
    cases k <;> simp [fcells]
/-- A tag is written. -/
theorem OwnFh.tag {g cap : Nat} (h : OwnFh w base hi tF tB (.slice (some ⟨g, 0, none⟩) fs.length cap) fs) (hne : tF ≠ tB) {k : Nat} {f : Fd} (hf : fs[k]? = some f) (t : Int) :
    OwnFh (w.setCell ⟨g, 2 * k, none⟩ (.int .i64 t)) base hi tF tB (.slice (some ⟨g, 0, none⟩) fs.length cap) (fs.set k (t, f.2)) := by
  obtain ⟨vs, hl, hrow, hvs, hhi⟩ := h
  obtain ⟨h1, h2⟩ := World.ownsRow.stored hrow (2 * k) (.int .i64 t)
  rw [fcells_tag fs vs k f t hf] at h1
  refine ⟨vs, by simpa using hl, by simpa using h1, fun j f' u hf' hu => ?_, hhi⟩
  have hk : ∃ f0, fs[j]? = some f0 ∧ f0.2 = f'.2 := by
    by_cases e : j = k
    · subst e
      rw [List.getElem?_set_self (List.getElem?_eq_some_iff.1 hf).1] at hf'
      injection hf' with hf'
      exact ⟨f, hf, by rw [← hf']⟩
    · rw [List.getElem?_set_ne (fun h => e h.symm)] at hf'
      exact ⟨f', hf', rfl⟩
  obtain ⟨f0, h0, e0⟩ := hk
  rw [← e0]
  exact World.ownsRow.kept (hvs j f0 u h0 hu) h2 (own_ne hrow (hvs j f0 u h0 hu) hne)
/-- What is to be known of field k to write there. -/
theorem OwnFh.at_ (h : OwnFh w base hi tF tB v fs) {k : Nat} {f : Fd} (hf : fs[k]? = some f) : ∃ g cap V c, v = .slice (some ⟨g, 0, none⟩) fs.length cap ∧ base ≤ g ∧ g < hi ∧ (∀ k, (Value.slice V f.2.length c).ownBlock = some k → k < hi) ∧ w.cell? ⟨g, 2 * k, none⟩ = some (.int .i64 f.1) ∧ w.frozen? ⟨g, 2 * k, none⟩ = false ∧
    w.cell? ⟨g, 2 * k + 1, none⟩ = some (.slice V f.2.length c) ∧ OwnB w base tB (.slice V f.2.length c) f.2 := by
  obtain ⟨vs, hl, hrow, hvs, hhi⟩ := h
  have hk := (List.getElem?_eq_some_iff.1 hf).1
  rcases hrow.2 with ⟨_, h0⟩ | ⟨g, cap, cur, rfl, hb, hg, hc, hm, _⟩
  · omega
  · have hu := List.getElem?_eq_getElem (show k < vs.length by omega)
    obtain ⟨c0, c1⟩ := fcells_at fs vs k f _ hf hu
    have hB := hvs k f _ hf hu
    obtain ⟨V, c, hV, _, _⟩ := hB.shape
    have e0 := hrow.cells (g := g) rfl _ _ c0
    have e1 := hrow.cells (g := g) rfl _ _ c1
    rw [Addr.add_lit, Nat.zero_add] at e0 e1
    rw [hV] at e1 hB
    exact ⟨g, cap, V, c, rfl, hb, hhi.2 g rfl, fun k hk => hhi.1 _ (List.mem_of_getElem? hu) k (by rw [hV]; exact hk), e0, hrow.frozenAt _, e1, hB⟩
end
end Go.Proofs.Ytmkdcnhhcfblgaa
