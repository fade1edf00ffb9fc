/- What the document's Sum under a secret holds. -/
import Derived.Test.YtndnmjolcilamaaDoorRpk
import Derived.Test.YtndnmjolcilamaaDoorApz
namespace Go.Proofs.YtndnmjolcilamaaDoor
open Go.RowKit

theorem made64 (w : World) : (Instr.makeSlice 28 (.int .i64 64) (.int .i64 64)).run Tryd.prog w = .ok (.slice (some ⟨w.heap.size, 0, none⟩) 64 64) (w.alloc (.cells (bcells (zeros 64)).toArray 5)) := by kernel_rfl
theorem fit_tail (l : List UInt8) : ∃ p : List UInt8, fitOf l = p ++ zeros (64 - p.length) ∧ p.length ≤ 64 ∧ p = (if 64 < l.length then shaOf l else l) := by
  by_cases h : 64 < l.length
  · exact ⟨shaOf l, by rw [fitOf, if_pos h], by rw [shaOf_length]; omega, by rw [if_pos h]⟩
  · exact ⟨l, by rw [fitOf, if_neg h], by omega, by rw [if_neg h]⟩
theorem mix_tail (p : List UInt8) (h : p.length ≤ 64) : mix (p ++ zeros (64 - p.length)) (zeros 64) p.length = p ++ zeros (64 - p.length) := by
  apply List.ext_getElem?
  intro i
  have hl : (p ++ zeros (64 - p.length)).length = (zeros 64).length := by rw [List.length_append, zeros_length, zeros_length]; omega
  by_cases hi : i < p.length
  · rw [mix_low _ _ hl _ _ hi]
  · rw [mix_get _ _ hl _ _ (by omega), List.getElem?_append_right (by omega), zeros, zeros]
    by_cases h64 : i < 64
    · rw [List.getElem?_replicate_of_lt h64, List.getElem?_replicate_of_lt (by omega)]
    · rw [List.getElem?_eq_none (by rw [List.length_replicate]; omega), List.getElem?_eq_none (by rw [List.length_replicate]; omega)]
theorem digest_sha (k : List UInt8) (t : UInt8) (l : List UInt8) : shaOf (turnOf k t ++ l) = digestOf k t l := by rw [shaOf, digestOf, adds_append]
theorem turn_snoc (k : List UInt8) (t : UInt8) (i : Nat) (u : UInt8) (hu : k[i]? = some u) : turnOf (k.take i) t ++ [u ^^^ t] = turnOf (k.take (i + 1)) t := by
  rw [turnOf, turnOf, List.take_add_one, hu]
  simp
end Go.Proofs.YtndnmjolcilamaaDoor
