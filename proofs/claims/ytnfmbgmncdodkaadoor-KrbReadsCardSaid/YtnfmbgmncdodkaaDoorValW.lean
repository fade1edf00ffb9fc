/- The walk of Values of tlv. -/
import Derived.Test.YtnfmbgmncdodkaaDoorValL
import Derived.Deep.QuietTactic
import Derived.BigQuiet
namespace Go.Proofs.YtnfmbgmncdodkaaDoor
open Go.RowKit

theorem textsInfo : (Tryd.prog.info? 22).map (fun i => (i.zero, i.size, i.bytes)) = some (some (.slice none 0 0), 1, 24) := by kernel_rfl
theorem run_makeTexts (n : Nat) (hn : n ≤ 1000000) (w : World) :
    (Instr.makeSlice 143 (.int .i64 (n : Int)) (.int .i64 (n : Int))).run Tryd.prog w = .ok (.slice (some ⟨w.heap.size, 0, none⟩) n n) (w.alloc (.cells (madeCells #[.slice none 0 0] n) 22)) := by
  obtain ⟨i0, hi, hz0, hz1, hz2⟩ := info_parts textsInfo
  have h := run_make (P := Tryd.prog) w 143 22 i0 _ Tryd.underlying143 hi hz0 .i64 .i64 n n (by omega) (Int.le_refl _) (by rw [hz2]; omega) (by omega)
  rw [hz1, Int.toNat_natCast, Nat.mul_one] at h
  exact h

theorem IsS.below {w w' : World} {v : Value} {ls : List (List UInt8)} (h : IsS w v ls) (hb : Below w.heap.size w w') : IsS w' v ls := by
  obtain ⟨V, c, rfl, hr⟩ := h
  exact ⟨V, c, rfl, (hr.below hb).more hb.size⟩

/-- The rounds of Values: the first k values are laid. -/
def ValRel (w1 : World) (F : Option Addr) (fs : List Fd) (fc : Nat) (ts : List Int) (vs : List Value) (k : Nat) (cs : Array Value) (wr : World) : Prop :=
  wr.heap[w1.heap.size + 1]? = some (.cells cs 22 (0, 0)) ∧ cs.size = fs.length ∧ (∀ (j : Nat) (u : Value), j < k → vs[j]? = some u → cs[j]? = some u) ∧
    ((w1.alloc (.cells #[.slice F fs.length fc] 60)).alloc (.cells (madeCells #[.slice none 0 0] fs.length) 22)).grownBy wr (some (w1.heap.size + 1)) ∧
    ∀ (j : Nat) (f : Fd) (t : Int), j < k → fs[j]? = some f → ts[j]? = some t → f.1 = t
theorem ValRel.start (w1 : World) (F : Option Addr) (fs : List Fd) (fc : Nat) (ts : List Int) (vs : List Value) :
    ValRel w1 F fs fc ts vs 0 (madeCells #[.slice none 0 0] fs.length) ((w1.alloc (.cells #[.slice F fs.length fc] 60)).alloc (.cells (madeCells #[.slice none 0 0] fs.length) 22)) :=
  ⟨heap_alloc2_new _ _ _, size_madeCells _ _, fun j u hj => by omega, World.grownBy.refl _ _, fun j f t hj => by omega⟩
section
variable {w1 wr : World} {F : Option Addr} {fs : List Fd} {fc : Nat} {ts : List Int} {vs : List Value} {k : Nat} {cs : Array Value}
theorem ValRel.low (h : ValRel w1 F fs fc ts vs k cs wr) : Below (w1.heap.size + 1) ((w1.alloc (.cells #[.slice F fs.length fc] 60)).alloc (.cells (madeCells #[.slice none 0 0] fs.length) 22)) wr :=
  ⟨h.2.2.2.1.os, h.2.2.2.1.tape, h.2.2.2.1.output, h.2.2.2.1.size, fun i hi => h.2.2.2.1.block i (by simp; omega) (fun e => by injection e; omega)⟩
theorem ValRel.below (h : ValRel w1 F fs fc ts vs k cs wr) : Below w1.heap.size w1 wr :=
  (((Below.refl _ _).alloc (Nat.le_refl _) _).alloc (by simp) _).trans (h.low.mono (Nat.le_succ _))
theorem ValRel.box (h : ValRel w1 F fs fc ts vs k cs wr) : wr.cell? ⟨w1.heap.size, 0, none⟩ = some (.slice F fs.length fc) := by
  rw [h.low.cell (p := ⟨w1.heap.size, 0, none⟩) (by simp), cell_of_row _ w1.heap.size 0 _ _ _ (heap_alloc2_old w1 _ _)]
  rfl
theorem ValRel.size (h : ValRel w1 F fs fc ts vs k cs wr) : w1.heap.size + 2 ≤ wr.heap.size := by
  have := h.2.2.2.1.size
  simpa using this
theorem ValRel.next {w2 : World} {u : Value} {f : Fd} {t : Int} (h : ValRel w1 F fs fc ts vs k cs wr) (hb : Below wr.heap.size wr w2) (hu : vs[k]? = some u) (hk : k < fs.length) (hf : fs[k]? = some f) (ht : ts[k]? = some t) (he : f.1 = t) :
    ValRel w1 F fs fc ts vs (k + 1) (cs.setIfInBounds k u) (w2.setCell ⟨w1.heap.size + 1, k, none⟩ u) := by
  have hs := h.size
  obtain ⟨h1, h2, h3, h4, h5⟩ := h
  have h1' := (hb.block _ (show w1.heap.size + 1 < wr.heap.size by omega)).trans h1
  refine ⟨heap_setCell_same w2 _ k cs _ u h1', by simpa using h2, fun j x hj hx => ?_, (h4.trans (grown_of_below hb _)).trans (grown_set w2 _ k u), fun j f' t' hj hf' ht' => ?_⟩
  · by_cases e : j = k
    · subst e
      rw [hu] at hx
      injection hx with hx
      subst hx
      simp [h2, hk]
    · rw [Array.getElem?_setIfInBounds_ne (by omega)]
      exact h3 j x (by omega) hx
  · by_cases e : j = k
    · subst e
      rw [hf] at hf'
      rw [ht] at ht'
      injection hf' with hf'
      injection ht' with ht'
      subst hf' ht'
      exact he
    · exact h5 j f' t' (by omega) hf' ht'
end

end Go.Proofs.YtnfmbgmncdodkaaDoor
