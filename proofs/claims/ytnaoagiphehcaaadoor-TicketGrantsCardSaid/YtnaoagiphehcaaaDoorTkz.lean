/- Small lemmas for ticket's laws. -/
import Derived.Test.YtnaoagiphehcaaaDoorTkg
import Derived.Test.YtnaoagiphehcaaaDoorTkx
namespace Go.Proofs.YtnaoagiphehcaaaDoor
open Go.RowKit


theorem long_at (w : World) (t : TypeId) (ls : List ByteArray) (n : Nat) (R : Bool) (hn : ls.length = n) (hb : n ≤ 10) (hR : (ls.any fun s => decide (300 < s.size)) = R) :
    Calls Tryd.prog 16 #[.slice (some ⟨w.heap.size, 0, none⟩) n n] (w.alloc (.cells (ls.map Value.string).toArray t)) fun e w' => e = .returned (.bool R) ∧ w.grownBy w' none := by
  subst hR
  refine (long_any w.heap.size n ls _ hn hb (fun k s hs => ?_)).mono ?_
  · exact (CB.new w t (ls.map Value.string)).at_ (by rw [List.getElem?_map, hs]; rfl)
  · rintro e w' ⟨rfl, rfl⟩
    exact ⟨rfl, grown_alloc _ _ _⟩
theorem CB.new2 (w : World) (o1 o2 : Obj) (t : TypeId) (cs : List Value) : CB (((w.alloc o1).alloc o2).alloc (.cells cs.toArray t)) (w.heap.size + 1 + 1) t cs := by
  have := CB.new ((w.alloc o1).alloc o2) t cs
  rw [World.size_alloc, World.size_alloc] at this
  exact this
theorem nat_of_u64 {n : Int} (h : (Lit.int .u64 n).wf = true) : ∃ m : Nat, n = (m : Int) ∧ m < 18446744073709551616 := by
  have := bounds_u64 h
  exact ⟨n.toNat, by omega, by omega⟩
theorem size_list (s : ByteArray) : s.data.toList.length = s.size := rfl
theorem tReads_other {fs : List Fd} (h : ∀ f ∈ fs, chk f = 0) (hne : fs.map (·.1) ≠ [1, 2, 3, 4, 5, 6]) : tReads (bytesF fs) = false := by
  rw [tReads, decide_eq_false (valuesOf_other h hne), Bool.false_and]
theorem aReads_other {fs : List Fd} (h : ∀ f ∈ fs, chk f = 0) (hne : fs.map (·.1) ≠ [11, 12, 13, 14]) : aReads (bytesF fs) = false := by
  rw [aReads, decide_eq_false (valuesOf_other h hne), Bool.false_and]
theorem gReads_other {fs : List Fd} (h : ∀ f ∈ fs, chk f = 0) (hne : fs.map (·.1) ≠ [21, 22, 23, 24, 25, 26]) : gReads (bytesF fs) = false := by
  rw [gReads, decide_eq_false (valuesOf_other h hne), Bool.false_and]
/-- Two structs of the same cells are one. -/
theorem RB.row2 {w w' : World} {A : Option Addr} {l : List UInt8} {cap : Nat} (h : RB w w.heap.size A l cap) (hg : w.grownBy w' none) : RB w' w'.heap.size A l cap := (h.kept hg (Nat.le_refl _)).more hg.size

theorem grown_own6 {w a b : World} {row : Option Nat} (h : w.grownBy a none) (k : a.grownBy b row) (hr : ∀ x, row = some x → w.heap.size ≤ x) : w.grownBy b none := grownR h k hr
theorem CB.row6 {w w' : World} {g : Nat} {t : TypeId} {cs : List Value} {r : Option Nat} (h : CB w g t cs) (hg : w.grownBy w' r) (hr : ∀ x, r = some x → g < x) : CB w' g t cs := h.row hg (fun x hx => by have := hr x hx; omega)
end Go.Proofs.YtnaoagiphehcaaaDoor
