/- '[]T{x}' of one struct. Plain lemmas, no program. -/
import Derived.Test.YtmbmahpklkcioaaDoorRow
namespace Go.Proofs.YtmbmahpklkcioaaDoor
open Go.RowKit

theorem fold_set : ∀ (l : List Value) (k : Nat) (cs : Array Value), k + l.length = cs.size → (l.zipIdx k).foldl (fun cs x => cs.setIfInBounds (0 + x.2) x.1) cs = (cs.toList.take k ++ l).toArray
  | [], k, cs, h => by
    have hk : k = cs.size := by simpa using h
    subst hk
    rw [List.zipIdx_nil, List.foldl_nil, List.append_nil, List.take_of_length_le (by simp)]
  | c :: l, k, cs, h => by
    have hk : k < cs.size := by rw [List.length_cons] at h; omega
    rw [List.zipIdx_cons, List.foldl_cons, fold_set l (k + 1) _ (by rw [Array.size_setIfInBounds, ← h, List.length_cons]; omega)]
    congr 1
    have : (cs.setIfInBounds (0 + k) c).toList.take (k + 1) = cs.toList.take k ++ [c] := by
      rw [Nat.zero_add, Array.toList_setIfInBounds, List.take_succ_eq_append_getElem (by simpa using hk), List.take_set_of_le (Nat.le_refl _), List.getElem_set_self]
    rw [this, List.append_assoc]
    rfl
theorem run_lit1 {P : Program} {t e : TypeId} {sz : Nat} {p zs : List Value} (ht : P.underlying t = some (.slice e)) (hi : (P.info? e).map (·.size) = some sz) (hz : ∀ w, (zeroValue e).run P w = .ok (.agg zs.toArray) w) (hp : p.length = sz) (hs : sz ≤ 1000) (hpos : 0 < sz) (w : World) :
    (Instr.buildSlice t 1 #[(0, .agg p.toArray)]).run P w = .ok (.slice (some ⟨w.heap.size, 0, none⟩) 1 1) (w.alloc (.cells p.toArray e)) := by
  have hsz : ∀ w, (sizeOf e).run P w = .ok sz w := by
    intro w
    cases hq : P.info? e with
    | none => simp [hq] at hi
    | some j =>
      have hj : j.size = sz := by simpa [hq] using hi
      simp [sizeOf, typeInfo, hq, hj]
  have hne : ¬ sz = 0 := by omega
  have hfill : ∀ B : Array Value, B.size = sz → Instr.fill (fun i => some (i * sz, sz)) B [(0, .agg p.toArray)] = some p.toArray := by
    intro B hB
    unfold Instr.fill
    simp only [Nat.zero_mul, Value.cells]
    rw [if_neg (by simp [hp, hB])]
    unfold Instr.fill
    congr 1
    have h1 : p.toArray.zipIdx.foldl (fun cs x => cs.setIfInBounds (0 + x.2) x.1) B = p.zipIdx.foldl (fun cs x => cs.setIfInBounds (0 + x.2) x.1) B := by
      rw [← Array.foldl_toList]
      simp
    have h2 := fold_set p 0 B (by rw [hB, hp, Nat.zero_add])
    rw [List.take_zero, List.nil_append] at h2
    exact h1.trans h2
  have hle2 : ¬ 16777216 < sz := by omega
  simp [Instr.buildSlice, run_underlying ht, hsz, hle2, hne, hz, Value.cells, newRow, Result.andThen]
  rw [hfill _ (by simp)]
  simp
section
variable {P : Program} {w : World} {ops : Array Oper} {rest : List Oper} {o : Oper} {a : Act} {Q : Exit → Act → World → Prop} {t e : TypeId} {sz : Nat} {p zs : List Value}
theorem wpList_lit1 (ht : P.underlying t = some (.slice e)) (hi : (P.info? e).map (·.size) = some sz) (hz : ∀ w, (zeroValue e).run P w = .ok (.agg zs.toArray) w) (hp : p.length = sz) (hs : sz ≤ 1000) (hpos : 0 < sz) (hgd : o.guard = none) (x : Operand) (ho : o.op = .buildSlice t 1 #[(0, x)]) (hx : a.eval x = .agg p.toArray)
    (hk : wpList P ops Q rest (a.put o.dst (.slice (some ⟨w.heap.size, 0, none⟩) 1 1)) (w.alloc (.cells p.toArray e))) : wpList P ops Q (o :: rest) a w := by
  refine wpList_plain hgd fun K hK => ?_
  unfold Oper.wp execOp
  simp only [ho, List.map_toArray, List.map_cons, List.map_nil, hx, run_lit1 ht hi hz hp hs hpos w, Sem.run_bind, Result.andThen_ok, Sem.run_pure]
  exact hK _ _ hk
theorem wp_lit1 {K : Act → World → Prop} (ht : P.underlying t = some (.slice e)) (hi : (P.info? e).map (·.size) = some sz) (hz : ∀ w, (zeroValue e).run P w = .ok (.agg zs.toArray) w) (hp : p.length = sz) (hs : sz ≤ 1000) (hpos : 0 < sz) (x : Operand) (ho : o.op = .buildSlice t 1 #[(0, x)]) (hx : a.eval x = .agg p.toArray)
    (hk : K (a.put o.dst (.slice (some ⟨w.heap.size, 0, none⟩) 1 1)) (w.alloc (.cells p.toArray e))) : o.wp P a w K Q := by
  unfold Oper.wp execOp
  simp only [ho, List.map_toArray, List.map_cons, List.map_nil, hx, run_lit1 ht hi hz hp hs hpos w, Sem.run_bind, Result.andThen_ok, Sem.run_pure]
  exact hk
end
end Go.Proofs.YtmbmahpklkcioaaDoor
