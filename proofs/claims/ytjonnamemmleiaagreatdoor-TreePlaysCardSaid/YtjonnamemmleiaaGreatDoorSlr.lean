/- Slices of structs that came in: each element by its cells. Plain lemmas, no program. -/
import Derived.Test.YtjonnamemmleiaaGreatDoorTra
import Derived.Deep.Slices
import Derived.Deep.Fields
import Derived.ProofKit
namespace Go.Proofs.YtjonnamemmleiaaGreatDoor
open Go.ChangeShapes Go.WideShapes Go.RowKit

/-- The slice at A, of this capacity, has these elements, of sz cells each; its block lies below B. -/
def SR (w : World) (B : Nat) (A : Option Addr) (sz : Nat) (Cs : List (List Value)) (cap : Nat) : Prop :=
  Cs.length ≤ cap ∧ cap ≤ maxLen ∧ ((A = none ∧ cap = 0) ∨ ∃ a : Addr, A = some a ∧ (0 < Cs.length → a.spot = none ∧ a.block < B) ∧ ∀ k c, Cs[k]? = some c → ∀ j v, c[j]? = some v → w.cell? ⟨a.block, a.off + sz * k + j, none⟩ = some v)
section
variable {w w' : World} {B sz cap : Nat} {A : Option Addr} {Cs : List (List Value)}
theorem SR.keep (h : SR w B A sz Cs cap) (hk : ∀ b i, b < B → w'.cell? ⟨b, i, none⟩ = w.cell? ⟨b, i, none⟩) : SR w' B A sz Cs cap :=
  ⟨h.1, h.2.1, h.2.2.imp id fun ⟨a, hA, hb, hc⟩ => ⟨a, hA, hb, fun k c hkc j v hj => (hk _ _ (hb (by have := (List.getElem?_eq_some_iff.1 hkc).1; omega)).2).trans (hc k c hkc j v hj)⟩⟩
theorem SR.below {B' : Nat} (h : SR w B A sz Cs cap) (hb : Below B' w w') (hB : B ≤ B') : SR w' B A sz Cs cap := h.keep fun b i hlt => hb.cell (p := ⟨b, i, none⟩) (Nat.lt_of_lt_of_le hlt hB)
theorem SR.made (h : SR w B A sz Cs cap) (hg : w.grownBy w' none) (hB : B ≤ w.heap.size) : SR w' B A sz Cs cap := h.below (below_of_none hg) hB
/-- An element: where it lies, and its cells. -/
theorem SR.elem (h : SR w B A sz Cs cap) {k : Nat} (hk : k < Cs.length) : ∃ b off, A = some ⟨b, off, none⟩ ∧ b < B ∧ ∀ j v, (Cs[k])[j]? = some v → w.cell? ⟨b, off + sz * k + j, none⟩ = some v := by
  rcases h.2.2 with ⟨_, h0⟩ | ⟨⟨b, off, s⟩, hA, hb, hc⟩
  · have := h.1; omega
  · obtain ⟨hs, hlt⟩ := hb (by omega)
    simp at hs
    subst hs
    exact ⟨b, off, hA, hlt, fun j v hj => hc k _ (List.getElem?_eq_getElem hk) j v hj⟩
end

section
variable {P : Program} {w : World} {ops : Array Oper} {rest : List Oper} {o : Oper} {a : Act} {Q : Exit → Act → World → Prop} {ty : TypeId} {n : Nat} {p : List Value}
/-- A struct loaded from cells that are known. -/
theorem run_loadX (hT : AggT P ty n) {b off : Nat} (hc : ∀ j v, p[j]? = some v → w.cell? ⟨b, off + j, none⟩ = some v) (hp : p.length = n) : (loadVar ty ⟨b, off, none⟩).run P w = .ok (.agg p.toArray) w := by
  have hl : (loadCells ⟨b, off, none⟩ p.length).run P w = .ok p.toArray w := run_loadCells_list (P := P) w ⟨b, off, none⟩ p (fun j v hv => by rw [Addr.add_lit]; exact hc j v hv)
  rw [hp] at hl
  have hi := hT.hi
  cases hq : P.info? ty with
  | none => simp [hq] at hi
  | some i =>
    have hs : i.size = n := by simpa [hq] using hi
    simp [loadVar, Sem.run_bind, hT.ha, sizeOf, typeInfo, hq, hs, hl]
theorem wpList_loadX (hT : AggT P ty n) (hgd : o.guard = none) (x : Operand) (ho : o.op = .load ty x) {b off : Nat} (hc : ∀ j v, p[j]? = some v → w.cell? ⟨b, off + j, none⟩ = some v) (hp : p.length = n) (hx : a.eval x = .pointer (some ⟨b, off, none⟩))
    (hk : wpList P ops Q rest (a.put o.dst (.agg p.toArray)) w) : wpList P ops Q (o :: rest) a w := by
  refine wpList_plain hgd fun K hK => ?_
  unfold Oper.wp execOp
  simp only [ho, hx, Instr.loadAt, Instr.sureAddr, Sem.run_bind, Sem.run_pure, Result.andThen_ok, run_loadX hT hc hp]
  exact hK _ _ hk
end

/-- A slice of structs that came in, taken apart. -/
theorem SR.of_trod {H α : Type} [Inhabited α] {enc : TypeId × Value → H} {P : Program} {w : World} {base : Nat} {spare : Nat → Bool} {held : Bool} {T e : TypeId} {sz : Nat} (hT : P.underlying T = some (.slice e)) (hC : P.cellsOf e = sz) (hpos : 0 < sz) (mk : α → List Value) (ok : α → Prop) (hmk : ∀ f, ok f → (mk f).length = sz)
    (hopen : ∀ (fuel : Nat) (cs : List Value) (x : DataW H × List MemPlace), cs.length = sz → DataW.trod enc P w base spare held fuel e cs = some x → ∃ f, cs = mk f ∧ ok f)
    {A : Option Addr} {len cap : Nat} {d : DataW H} {p : List MemPlace} (h : DataW.Trod enc P w base spare held T (.slice A len cap) d p) :
    ∃ fs : List α, fs.length = len ∧ SR w w.heap.size A sz (fs.map mk) cap ∧ ∀ f ∈ fs, ok f := by
  obtain ⟨fuel, hf⟩ := h
  rcases Go.Deep.open_slice hT hf with ⟨hcs, _⟩ | ⟨a, n, c, m, q, D, Pl, hcs, _, hl, hm, hmm, _, hx⟩
  · simp [Value.cells] at hcs
    obtain ⟨rfl, rfl, rfl⟩ := hcs
    exact ⟨[], rfl, ⟨Nat.le_refl _, Nat.zero_le _, .inl ⟨rfl, rfl⟩⟩, fun f hf => by cases hf⟩
  · simp [Value.cells] at hcs
    obtain ⟨rfl, rfl, rfl⟩ := hcs
    have hml : len ≤ m := by rw [hmm]; split <;> omega
    obtain ⟨F, hF⟩ := Go.Deep.choose_lt (α := α) (n := len) (p := fun i f => (∀ j v, (mk f)[j]? = some v → w.cell? ((a.add (sz * i)).add j) = some v) ∧ ok f) (fun i hi => by
      obtain ⟨cs', h1, h2⟩ := hx i (by omega)
      rw [hC] at h1
      obtain ⟨_, hlen, hat⟩ := World.cells?_some h1
      obtain ⟨f, rfl, hok⟩ := hopen _ _ _ hlen h2
      rw [Nat.mul_comm i sz] at hat
      refine ⟨f, fun j v hj => ?_, hok⟩
      have hj' := (List.getElem?_eq_some_iff.1 hj).1
      rw [hat j (by omega)]
      exact hj)
    have h0 : 0 < len → a.spot = none ∧ a.block < w.heap.size := fun h => by
      obtain ⟨h1, h2⟩ := hF 0 h
      have h3 := h1 0 _ (List.getElem?_eq_getElem (by rw [hmk _ h2]; exact hpos))
      have h4 : (a.add (sz * 0)).add 0 = a := by simp [Addr.add]
      rw [h4] at h3
      exact ⟨World.cell?_spot h3, World.block_lt_of_cell? w _ h3⟩
    refine ⟨(List.range len).map F, by simp, ⟨by simp; omega, hm, .inr ?_⟩, fun f hf => ?_⟩
    · refine ⟨a, rfl, ?_, fun k c' hk j v hj => ?_⟩
      · intro h
        simp at h
        exact h0 h
      · rw [List.getElem?_map] at hk
        obtain ⟨f, hk', rfl⟩ := Option.map_eq_some_iff.1 hk
        rw [List.getElem?_map] at hk'
        obtain ⟨k', hk2, rfl⟩ := Option.map_eq_some_iff.1 hk'
        have hkl := (List.getElem?_eq_some_iff.1 hk2).1
        simp at hkl
        rw [List.getElem?_range hkl] at hk2
        injection hk2 with hk2
        subst hk2
        have h4 := (hF k hkl).1 j v hj
        have hs := (h0 (by omega)).1
        obtain ⟨ab, ao, asp⟩ := a
        simp only at hs
        subst hs
        rw [Addr.add_lit, Addr.add_lit] at h4
        exact h4
    · obtain ⟨k, hk, rfl⟩ := List.mem_map.1 hf
      exact (hF k (by simpa using hk)).2
end Go.Proofs.YtjonnamemmleiaaGreatDoor
