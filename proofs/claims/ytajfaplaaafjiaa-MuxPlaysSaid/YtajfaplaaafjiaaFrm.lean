/- What the frame of a law opens of texts, of numbers that came in. -/
import Derived.Test.YtajfaplaaafjiaaFrl
import Derived.Test.YtajfaplaaafjiaaFsW
namespace Go.Proofs.Ytajfaplaaafjiaa
open Go.ChangeShapes Go.WideShapes Go.RowKit

section
variable {H : Type} {enc : TypeId × Value → H} {w : World} {base : Nat} {spare : Nat → Bool} {held : Bool}
theorem texts_of_trod {A : Option Addr} {len cap : Nat} {d : DataW H} {p : List MemPlace} (h : DataW.Trod enc Try.prog w base spare held 39 (.slice A len cap) d p) :
    ∃ ls : List (List UInt8), ls.length = len ∧ RT w w.heap.size A ls cap ∧ True := by
  obtain ⟨fuel, hf⟩ := h
  rcases Go.Deep.open_slice Try.underlying39 hf with ⟨hcs, _⟩ | ⟨a, n, c, m, q, D, Pl, hcs, _, hl, hm, hmm, _, hx⟩
  · simp [Value.cells] at hcs
    obtain ⟨rfl, rfl, rfl⟩ := hcs
    exact ⟨[], rfl, RT.nil_ _ _, trivial⟩
  · simp [Value.cells] at hcs
    obtain ⟨rfl, rfl, rfl⟩ := hcs
    have hC : Try.prog.cellsOf 22 = 1 := by kernel_rfl
    have hml : len ≤ m := by rw [hmm]; split <;> omega
    obtain ⟨F, hF⟩ := Go.Deep.choose_lt (α := List UInt8) (n := len) (p := fun i l => a.block < w.heap.size ∧ ∃ V c, w.cell? (a.add i) = some (.slice V l.length c) ∧ RB w w.heap.size V l c) (fun i hi => by
      obtain ⟨cs', h1, h2⟩ := hx i (by omega)
      rw [hC] at h1
      obtain ⟨hsz, _, hat⟩ := World.cells?_some h1
      match cs', hsz with
      | [v], _ =>
        obtain ⟨V, l, c, rfl, hr⟩ := bytes_of_trod h2
        have e0 := hat 0 (by omega)
        rw [add_add_, Nat.mul_one, Nat.add_zero] at e0
        have hlt := World.block_lt_of_cell? w _ e0
        rw [add_block] at hlt
        exact ⟨l, hlt, V, c, e0, hr⟩)
    refine ⟨(List.range len).map F, by simp, ⟨by simp; omega, hm, .inr ⟨a, rfl, fun k l hkl => ?_⟩⟩, trivial⟩
    rw [List.getElem?_map] at hkl
    obtain ⟨k', hk', rfl⟩ := Option.map_eq_some_iff.1 hkl
    have hk := (List.getElem?_eq_some_iff.1 hk').1
    simp at hk
    rw [List.getElem?_range hk] at hk'
    injection hk' with hk'
    subst hk'
    exact hF k hk
end
end Go.Proofs.Ytajfaplaaafjiaa
