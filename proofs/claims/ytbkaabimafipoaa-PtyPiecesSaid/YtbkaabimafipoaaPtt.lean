/- What the frame of a law opens of texts that came in. -/
import Derived.Test.YtbkaabimafipoaaPtk
import Derived.ProofKit
namespace Go.Proofs.Ytbkaabimafipoaa
open Go.ChangeShapes Go.WideShapes Go.RowKit

theorem RB.of_cells {w : World} {x : Addr} {len cap : Nat} {zs : List Int} (hl : len ≤ cap) (hm : cap ≤ maxLen) (hz : len ≤ zs.length) (hc : ∀ i, i < zs.length → w.cell? (x.add i) = some (.int .u8 (zs.getD i 0))) (hw : ∀ n ∈ zs, (Lit.int .u8 n).wf = true) :
    ∃ l : List UInt8, l.length = len ∧ RB w w.heap.size (some x) l cap := by
  have hlen : ((zs.take len).map fun n => UInt8.ofNat n.toNat).length = len := by simp; omega
  refine ⟨(zs.take len).map fun n => UInt8.ofNat n.toNat, hlen, by omega, hm, .inr ⟨x, rfl, fun k u hu => ?_⟩⟩
  have hk : k < len := by rw [← hlen]; exact (List.getElem?_eq_some_iff.1 hu).1
  have hkz : k < zs.length := by omega
  have hcell := hc k hkz
  rw [List.getElem?_map, List.getElem?_take_of_lt hk, List.getElem?_eq_getElem hkz] at hu
  have hb : zs.getD k 0 = zs[k] := by simp [List.getD, List.getElem?_eq_getElem hkz]
  rw [hb] at hcell
  have hx := bounds_u8 (hw zs[k] (List.getElem_mem hkz))
  have hlt := World.block_lt_of_cell? w _ hcell
  rw [add_block] at hlt
  simp only [Option.map_some, Option.some.injEq] at hu
  subst hu
  refine ⟨hlt, hcell.trans ?_⟩
  congr 2
  exact u8_of (by omega)

section
variable {H : Type} {enc : TypeId × Value → H} {w : World} {base : Nat} {spare : Nat → Bool} {held : Bool}
theorem bytes_of_trod {fuel : Nat} {v : Value} {x : DataW H × List MemPlace}
    (h : DataW.trod enc Try.prog w base spare held fuel 30 [v] = some x) : ∃ V l c, v = .slice V l.length c ∧ RB w w.heap.size V l c := by
  rcases open_ints Try.underlying30 Try.underlying5 (by kernel_rfl) h with ⟨hcs, _⟩ | ⟨a, n, c, zs, hcs, _, hl, hm, hz, _, hcell, hwz⟩
  · simp only [List.cons.injEq, and_true] at hcs
    exact ⟨none, [], 0, hcs, RB.nil_ _ _⟩
  · simp only [List.cons.injEq, and_true] at hcs
    obtain ⟨l, hll, hr⟩ := RB.of_cells hl hm (by rw [hz]; split <;> omega) hcell hwz
    exact ⟨some a, l, c, by rw [hcs, hll], hr⟩

theorem texts_of_trod {A : Option Addr} {len cap : Nat} {d : DataW H} {p : List MemPlace} (h : DataW.Trod enc Try.prog w base spare held 22 (.slice A len cap) d p) :
    ∃ ls : List (List UInt8), ls.length = len ∧ RT w w.heap.size A ls cap ∧ True := by
  obtain ⟨fuel, hf⟩ := h
  rcases Go.Deep.open_slice Try.underlying22 hf with ⟨hcs, _⟩ | ⟨a, n, c, m, q, D, Pl, hcs, _, hl, hm, hmm, _, hx⟩
  · simp [Value.cells] at hcs
    obtain ⟨rfl, rfl, rfl⟩ := hcs
    exact ⟨[], rfl, RT.nil_ _ _, trivial⟩
  · simp [Value.cells] at hcs
    obtain ⟨rfl, rfl, rfl⟩ := hcs
    have hC : Try.prog.cellsOf 30 = 1 := by kernel_rfl
    have hml : len ≤ m := by rw [hmm]; split <;> omega
    obtain ⟨F, hF⟩ := Go.Deep.choose_lt (α := List UInt8) (n := len) (p := fun i l => a.block < w.heap.size ∧ ∃ V c, w.cell? (a.add i) = some (.slice V l.length c) ∧ RB w w.heap.size V l c) (fun i hi => by
      obtain ⟨cs', h1, h2⟩ := hx i (by omega)
      rw [hC] at h1
      obtain ⟨hsz, _, hat⟩ := World.cells?_some h1
      match cs', hsz with
      | [v], _ =>
        obtain ⟨V, l, c, rfl, hr⟩ := bytes_of_trod h2
        have e0 := hat 0 (by omega)
        rw [add_add_, Nat.mul_one, Nat.add_zero] at e0
        have hlt := World.block_lt_of_cell? w _ e0
        rw [add_block] at hlt
        exact ⟨l, hlt, V, c, e0, hr⟩)
    refine ⟨(List.range len).map F, by simp, ⟨by simp; omega, hm, .inr ⟨a, rfl, fun k l hkl => ?_⟩⟩, trivial⟩
    rw [List.getElem?_map] at hkl
    obtain ⟨k', hk', rfl⟩ := Option.map_eq_some_iff.1 hkl
    have hk := (List.getElem?_eq_some_iff.1 hk').1
    simp at hk
    rw [List.getElem?_range hk] at hk'
    injection hk' with hk'
    subst hk'
    exact hF k hk
end
end Go.Proofs.Ytbkaabimafipoaa
