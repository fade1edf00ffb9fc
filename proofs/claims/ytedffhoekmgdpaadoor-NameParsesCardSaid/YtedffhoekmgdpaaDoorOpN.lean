/- A name by value, taken apart; what later worlds keep of two names that were boxed. -/
import Derived.Test.YtedffhoekmgdpaaDoorPs
import Derived.SliceStrings
import Derived.ProofKit
namespace Go.Proofs.YtedffhoekmgdpaaDoor
open Go.ChangeShapes Go.WideShapes Go.RowKit

section
variable {H : Type} {enc : TypeId × Value → H} {w : World} {base : Nat} {spare : Nat → Bool} {held : Bool}
theorem strings_of_trod {fuel : Nat} {v : Value} {x : DataW H × List MemPlace}
    (h : DataW.trod enc Tryd.prog w base spare held fuel 22 [v] = some x) : ∃ (A : Option Addr) (ls : List ByteArray) (c : Nat), v = .slice A ls.length c ∧ RS w w.heap.size A ls c := by
  rcases open_strings Tryd.underlying22 Tryd.underlying9 (by kernel_rfl) h with ⟨hcs, _⟩ | ⟨a, len, cap, ss, hcs, _, hl, hm, hz, _, hcell, _⟩
  · simp only [List.cons.injEq, and_true] at hcs
    exact ⟨none, [], 0, hcs, RS.nil_ _ _⟩
  · simp only [List.cons.injEq, and_true] at hcs
    have hlen : (ss.take len).length = len := by rw [List.length_take, hz]; split <;> omega
    refine ⟨some a, ss.take len, cap, by rw [hcs, hlen], by rw [hlen]; exact hl, hm, .inr ⟨a, rfl, fun k s hs => ?_⟩⟩
    have hk : k < len := by rw [← hlen]; exact (List.getElem?_eq_some_iff.1 hs).1
    have hks : k < ss.length := by rw [hz]; split <;> omega
    have hc := hcell k hks
    rw [List.getElem?_take_of_lt hk] at hs
    have hlt := World.block_lt_of_cell? w _ hc
    rw [add_block] at hlt
    refine ⟨hlt, hc.trans ?_⟩
    rw [List.getD, hs]
    rfl
theorem name_of_trod {fuel : Nat} {cs : List Value} {x : DataW H × List MemPlace}
    (h : DataW.trod enc Tryd.prog w base spare held fuel 24 cs = some x) : ∃ (A : Option Addr) (ls : List ByteArray) (c : Nat) (r : ByteArray), cs = [.slice A ls.length c, .string r] ∧ RS w w.heap.size A ls c := by
  obtain ⟨xs, n, _, _, hlen, hxl, hf⟩ := DataW.trod_struct Tryd.underlying24 h
  have hC : Tryd.prog.cellsOf 24 = 2 := by kernel_rfl
  have hCs : Tryd.prog.cellsOf 9 = 1 := by kernel_rfl
  have hCb : Tryd.prog.cellsOf 22 = 1 := by kernel_rfl
  rw [hC] at hlen
  match cs, hlen with
  | [c0, c1], _ =>
    match xs, hxl with
    | [y0, y1], _ =>
      have h0 := hf 0 _ rfl
      have h1 := hf 1 _ rfl
      change DataW.trod enc Tryd.prog w base spare held n 22 (List.take (Tryd.prog.cellsOf 22) (List.drop 0 [c0, c1])) = some y0 at h0
      change DataW.trod enc Tryd.prog w base spare held n 9 (List.take (Tryd.prog.cellsOf 9) (List.drop 1 [c0, c1])) = some y1 at h1
      rw [hCb] at h0
      rw [hCs] at h1
      simp only [List.drop_zero, List.drop_succ_cons, List.take_succ_cons, List.take_zero] at h0 h1
      obtain ⟨A, ls, c, rfl, hr⟩ := strings_of_trod h0
      obtain ⟨s, hs, _, _⟩ := DataW.trod_string Tryd.underlying9 h1
      simp only [List.cons.injEq, and_true] at hs
      subst hs
      exact ⟨A, ls, c, s, rfl, hr⟩
theorem open_name {r : Reach} {b0 : Nat} {v : Value} {d : DataW H} {p : List MemPlace} (hv : Value.okWide Tryd.prog w r b0 24 v) (h : DataW.Trod enc Tryd.prog w base spare held 24 v d p) :
    ∃ (A : Option Addr) (ls : List ByteArray) (c : Nat) (r : ByteArray), v = .agg #[.slice A ls.length c, .string r] ∧ RS w w.heap.size A ls c := by
  obtain ⟨cs, rfl, _⟩ := okWide_struct Tryd.underlying24 hv
  obtain ⟨fuel, hf⟩ := h
  obtain ⟨A, ls, c, r, hcs, hr⟩ := name_of_trod hf
  refine ⟨A, ls, c, r, ?_, hr⟩
  congr 1
  apply Array.ext'
  exact hcs
end
end Go.Proofs.YtedffhoekmgdpaaDoor
