/- Whole arrays of bytes read out of a block, and written over one: rules of the walk. Plain lemmas. -/
import Derived.Test.YtcfhpoigfkljpaaBlk
namespace Go.Proofs.Ytcfhpoigfkljpaa
open Go.RowKit

/-- What the program says of a type of arrays of n bytes. -/
structure ArrT (P : Program) (t e : TypeId) (n : Nat) : Prop where
  ht : P.underlying t = some (.array n e)
  hi : (P.info? t).map (·.size) = some n

theorem bcells_size (l : List UInt8) : (bcells l).toArray.size = l.length := by simp [bcells]
theorem bcells_all (l : List UInt8) : (bcells l).toArray.all (·.oneCell') = true := by
  rw [Array.all_eq_true_iff_forall_mem]
  intro u hu
  exact bcells_one l u (by simpa using hu)

section
variable {P : Program} {w : World} {ops : Array Oper} {rest : List Oper} {o : Oper} {a : Act} {Q : Exit → Act → World → Prop} {ty e t : TypeId} {n g : Nat} {l l' : List UInt8}

theorem wpList_loadB (hT : ArrT P ty e n) (hgd : o.guard = none) (x : Operand) (ho : o.op = .load ty x) (h : BB w g t l) (hl : l.length = n) (hx : a.eval x = .pointer (some ⟨g, 0, none⟩))
    (hk : wpList P ops Q rest (a.put o.dst (.agg (bcells l).toArray)) w) : wpList P ops Q (o :: rest) a w :=
  wpList_load_row hgd ty x ho g hx t _ (0, 0) _ h hT.ht rfl (by rw [hT.hi, bcells_size, hl]) hk

theorem BB.setRow (h : BB w g t l) (l' : List UInt8) : BB (w.setRow g (bcells l').toArray) g t l' := setRow_heap w g _ _ t _ h
theorem grown_setRow (w : World) (g : Nat) (cs : Array Value) : w.grownBy (w.setRow g cs) (some g) :=
  ⟨rfl, rfl, rfl, by rw [size_setRow]; exact Nat.le_refl _, fun i _ hne => setRow_other w g i cs (fun e => hne (by rw [e]))⟩

theorem wpList_storeB (hT : ArrT P ty e n) (hgd : o.guard = none) (x y : Operand) (ho : o.op = .store ty x y) (h : BB w g t l) (hl : l.length = n) (hl' : l'.length = n) (hx : a.eval x = .pointer (some ⟨g, 0, none⟩)) (hy : a.eval y = .agg (bcells l').toArray)
    (hk : ∀ w', BB w' g t l' → w.grownBy w' (some g) → wpList P ops Q rest (a.put o.dst undef) w') : wpList P ops Q (o :: rest) a w :=
  wpList_store_row hgd ty x y ho g _ hx hy t _ h (by rw [hT.hi, bcells_size, hl']) (by rw [bcells_size, bcells_size, hl, hl']) (bcells_all l') (hk _ (h.setRow l') (grown_setRow _ _ _))
/-- The result that lies in a block. -/
theorem results_B {fn : Func} {p : Tmp} (hT : ArrT P ty e n) (hr : fn.results = #[.cell p ty]) (tmps : Array Value) (h : BB w g t l) (hl : l.length = n) (hp : tmps.getD p undef = .pointer (some ⟨g, 0, none⟩)) :
    (results fn tmps).run P w = .ok (.agg (bcells l).toArray) w :=
  results_cell_row hr tmps w g t _ (0, 0) _ hp h hT.ht rfl (by rw [hT.hi, bcells_size, hl])
end
theorem BB.grown {w w' : World} {g g' : Nat} {t : TypeId} {l : List UInt8} (h : BB w g t l) (hg : w.grownBy w' (some g')) (hne : g ≠ g') : BB w' g t l := (hg.block g h.lt (fun e => hne (by injection e))).trans h
theorem below_of_grown {B g : Nat} {w w' : World} (hg : w.grownBy w' (some g)) (hB : B ≤ g) (hs : B ≤ w.heap.size) : Below B w w' :=
  ⟨hg.os, hg.tape, hg.output, hg.size, fun i hi => hg.block i (Nat.lt_of_lt_of_le hi hs) (fun e => by injection e; omega)⟩
end Go.Proofs.Ytcfhpoigfkljpaa
