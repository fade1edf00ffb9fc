/- A piece of a block read as an array, and written as one: rules of the walk. -/
import Derived.Test.YtbpkaaajcimcgabTab
import Derived.StillTactics
namespace Go.Proofs.Ytbpkaaajcimcgab
open Go.RowKit

def piece (l : List UInt8) (off n : Nat) : List UInt8 := (l.drop off).take n
theorem piece_length (l : List UInt8) (off n : Nat) (h : off + n ≤ l.length) : (piece l off n).length = n := by
  rw [piece, List.length_take, List.length_drop]; omega
theorem piece_at (l : List UInt8) (off n j : Nat) (hj : j < n) : (piece l off n)[j]? = l[off + j]? := by
  rw [piece, List.getElem?_take_of_lt hj, List.getElem?_drop]
def patch (l : List UInt8) (off : Nat) (p : List UInt8) : List UInt8 := l.take off ++ p ++ l.drop (off + p.length)
theorem patch_length (l : List UInt8) (off : Nat) (p : List UInt8) (h : off + p.length ≤ l.length) : (patch l off p).length = l.length := by
  rw [patch, List.length_append, List.length_append, List.length_take, List.length_drop]; omega
theorem bcells_take (l : List UInt8) (n : Nat) : bcells (l.take n) = (bcells l).take n := by simp [bcells, List.map_take]
theorem bcells_drop (l : List UInt8) (n : Nat) : bcells (l.drop n) = (bcells l).drop n := by simp [bcells, List.map_drop]
theorem bcells_patch (l : List UInt8) (off : Nat) (p : List UInt8) : bcells (patch l off p) = (bcells l).take off ++ bcells p ++ (bcells l).drop (off + (bcells p).length) := by
  rw [patch, bcells_append, bcells_append, bcells_take, bcells_drop, bcells_length]

section
variable {P : Program} {w : World} {ops : Array Oper} {rest : List Oper} {o : Oper} {a : Act} {Q : Exit → Act → World → Prop} {ty e t : TypeId} {n g off : Nat} {l p : List UInt8}

theorem run_loadP (hT : ArrT P ty e n) (h : BB w g t l) (hl : off + n ≤ l.length) : (loadVar ty ⟨g, off, none⟩).run P w = .ok (.agg (bcells (piece l off n)).toArray) w := by
  have hlen := piece_length l off n hl
  have hc : (loadCells ⟨g, off, none⟩ (bcells (piece l off n)).length).run P w = .ok (bcells (piece l off n)).toArray w :=
    run_loadCells_list (P := P) w ⟨g, off, none⟩ (bcells (piece l off n)) (fun j v hv => by
      rw [bcells_at] at hv
      obtain ⟨u, hu, rfl⟩ := Option.map_eq_some_iff.1 hv
      have hj : j < n := by rw [← hlen]; exact (List.getElem?_eq_some_iff.1 hu).1
      rw [piece_at l off n j hj] at hu
      rw [Addr.add_lit]
      exact h.at_ hu)
  rw [bcells_length, hlen] at hc
  have hi := hT.hi
  cases hq : P.info? ty with
  | none => simp [hq] at hi
  | some i =>
    have hs : i.size = n := by simpa [hq] using hi
    have hagg : (isAgg ty).run P w = .ok true w := by
      unfold isAgg
      rw [Sem.run_bind, run_underlying hT.ht w]
      rfl
    simp [loadVar, Sem.run_bind, hagg, sizeOf, typeInfo, hq, hs, hc]

theorem wpList_loadP (hT : ArrT P ty e n) (hgd : o.guard = none) (x : Operand) (ho : o.op = .load ty x) (h : BB w g t l) (hl : off + n ≤ l.length) (hx : a.eval x = .pointer (some ⟨g, off, none⟩))
    (hk : wpList P ops Q rest (a.put o.dst (.agg (bcells (piece l off n)).toArray)) w) : wpList P ops Q (o :: rest) a w := by
  refine wpList_plain hgd fun K hK => ?_
  unfold Oper.wp execOp
  simp only [ho, hx, Instr.loadAt, Instr.sureAddr, Sem.run_bind, Sem.run_pure, Result.andThen_ok, run_loadP hT h hl]
  exact hK _ _ hk

theorem still_loadB {next : Act → Prop} (hT : ArrT P ty e n) (x : Operand) (ho : o.op = .load ty x) (h : BB w g t l) (hl : l.length = n) (hx : a.eval x = .pointer (some ⟨g, 0, none⟩))
    (hk : next (a.put o.dst (.agg (bcells l).toArray))) : o.still P a w next := by
  have hp : piece l 0 n = l := by rw [piece, List.drop_zero, List.take_of_length_le (by omega)]
  have hr := run_loadP hT h (off := 0) (by omega)
  rw [hp] at hr
  unfold Oper.still execOp
  simp only [ho, hx, Instr.loadAt, Instr.sureAddr, Sem.run_bind, Sem.run_pure, Result.andThen_ok, hr]
  exact ⟨rfl, hk⟩

theorem BB.patch (h : BB w g t l) (off : Nat) (p : List UInt8) : BB (w.setRow g ((bcells l).take off ++ bcells p ++ (bcells l).drop (off + (bcells p).length)).toArray) g t (patch l off p) := by
  unfold BB
  rw [bcells_patch]
  exact setRow_heap w g _ _ t _ h
theorem run_storeP (hT : ArrT P ty e n) (h : BB w g t l) (hp : p.length = n) (hl : off + n ≤ l.length) :
    (storeVar ty ⟨g, off, none⟩ (.agg (bcells p).toArray)).run P w = .ok () (w.setRow g ((bcells l).take off ++ bcells p ++ (bcells l).drop (off + (bcells p).length)).toArray) := by
  have hs := run_storeCells_at P g off t (bcells p) 0 _ w h (by rw [bcells_length, bcells_size]; omega) (bcells_one p)
  have hi := hT.hi
  cases hq : P.info? ty with
  | none => simp [hq] at hi
  | some i =>
    have hsz : i.size = n := by simpa [hq] using hi
    have hne : (bcells p).length = i.size := by rw [bcells_length, hp, hsz]
    simp only [Nat.add_zero] at hs
    simp [storeVar, sizeOf, typeInfo, hq, Value.cells, hne]
    rw [hs, hne, List.append_assoc]
theorem wpList_storeP (hT : ArrT P ty e n) (hgd : o.guard = none) (x y : Operand) (ho : o.op = .store ty x y) (h : BB w g t l) (hl : off + n ≤ l.length) (hp : p.length = n) (hx : a.eval x = .pointer (some ⟨g, off, none⟩)) (hy : a.eval y = .agg (bcells p).toArray)
    (hk : ∀ w', BB w' g t (patch l off p) → w.grownBy w' (some g) → wpList P ops Q rest (a.put o.dst undef) w') : wpList P ops Q (o :: rest) a w := by
  refine wpList_plain hgd fun K hK => ?_
  unfold Oper.wp execOp
  simp only [ho, hx, hy, Instr.storeAt, Instr.sureAddr, Sem.run_bind, Sem.run_pure, Result.andThen_ok, run_storeP hT h hp hl]
  exact hK _ _ (hk _ (h.patch off p) (grown_setRow _ _ _))
end
end Go.Proofs.Ytbpkaaajcimcgab
