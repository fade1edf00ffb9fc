/- '[]T{x}' of one struct. Plain lemmas, no program. -/
import Derived.Test.YtfpcabfpnekejaaDoorRow
import Derived.Test.YtfpcabfpnekejaaDoorBrN
import Derived.Test.YtfpcabfpnekejaaDoorInm
import Derived.Test.YtfpcabfpnekejaaDoorMpt
namespace Go.Proofs.YtfpcabfpnekejaaDoor
open Go.RowKit

theorem fold_set : ∀ (l : List Value) (k : Nat) (cs : Array Value), k + l.length = cs.size → (l.zipIdx k).foldl (fun cs x => cs.setIfInBounds (0 + x.2) x.1) cs = (cs.toList.take k ++ l).toArray
  | [], k, cs, h => by
    have hk : k = cs.size := by simpa using h
    subst hk
    rw [List.zipIdx_nil, List.foldl_nil, List.append_nil, List.take_of_length_le (by simp)]
  | c :: l, k, cs, h => by
    have hk : k < cs.size := by rw [List.length_cons] at h; omega
    rw [List.zipIdx_cons, List.foldl_cons, fold_set l (k + 1) _ (by rw [Array.size_setIfInBounds, ← h, List.length_cons]; omega)]
    congr 1
    have : (cs.setIfInBounds (0 + k) c).toList.take (k + 1) = cs.toList.take k ++ [c] := by
      rw [Nat.zero_add, Array.toList_setIfInBounds, List.take_succ_eq_append_getElem (by simpa using hk), List.take_set_of_le (Nat.le_refl _), List.getElem_set_self]
    rw [this, List.append_assoc]
    rfl
theorem run_lit1 {P : Program} {t e : TypeId} {sz : Nat} {p zs : List Value} (ht : P.underlying t = some (.slice e)) (hi : (P.info? e).map (·.size) = some sz) (hz : ∀ w, (zeroValue e).run P w = .ok (.agg zs.toArray) w) (hp : p.length = sz) (hs : sz ≤ 1000) (hpos : 0 < sz) (w : World) :
    (Instr.buildSlice t 1 #[(0, .agg p.toArray)]).run P w = .ok (.slice (some ⟨w.heap.size, 0, none⟩) 1 1) (w.alloc (.cells p.toArray e)) := by
  have hsz : ∀ w, (sizeOf e).run P w = .ok sz w := by
    intro w
    cases hq : P.info? e with
    | none => simp [hq] at hi
    | some j =>
      have hj : j.size = sz := by simpa [hq] using hi
      simp [sizeOf, typeInfo, hq, hj]
  have hne : ¬ sz = 0 := by omega
  have hfill : ∀ B : Array Value, B.size = sz → Instr.fill (fun i => some (i * sz, sz)) B [(0, .agg p.toArray)] = some p.toArray := by
    intro B hB
    unfold Instr.fill
    simp only [Nat.zero_mul, Value.cells]
    rw [if_neg (by simp [hp, hB])]
    unfold Instr.fill
    congr 1
    have h1 : p.toArray.zipIdx.foldl (fun cs x => cs.setIfInBounds (0 + x.2) x.1) B = p.zipIdx.foldl (fun cs x => cs.setIfInBounds (0 + x.2) x.1) B := by
      rw [← Array.foldl_toList]
      simp
    have h2 := fold_set p 0 B (by rw [hB, hp, Nat.zero_add])
    rw [List.take_zero, List.nil_append] at h2
    exact h1.trans h2
  have hle2 : ¬ 16777216 < sz := by omega
  simp [Instr.buildSlice, run_underlying ht, hsz, hle2, hne, hz, Value.cells, newRow, Result.andThen]
  rw [hfill _ (by simp)]
  simp
section
variable {P : Program} {w : World} {ops : Array Oper} {rest : List Oper} {o : Oper} {a : Act} {Q : Exit → Act → World → Prop} {t e : TypeId} {sz : Nat} {p zs : List Value}
theorem wpList_lit1 (ht : P.underlying t = some (.slice e)) (hi : (P.info? e).map (·.size) = some sz) (hz : ∀ w, (zeroValue e).run P w = .ok (.agg zs.toArray) w) (hp : p.length = sz) (hs : sz ≤ 1000) (hpos : 0 < sz) (hgd : o.guard = none) (x : Operand) (ho : o.op = .buildSlice t 1 #[(0, x)]) (hx : a.eval x = .agg p.toArray)
    (hk : wpList P ops Q rest (a.put o.dst (.slice (some ⟨w.heap.size, 0, none⟩) 1 1)) (w.alloc (.cells p.toArray e))) : wpList P ops Q (o :: rest) a w := by
  refine wpList_plain hgd fun K hK => ?_
  unfold Oper.wp execOp
  simp only [ho, List.map_toArray, List.map_cons, List.map_nil, hx, run_lit1 ht hi hz hp hs hpos w, Sem.run_bind, Result.andThen_ok, Sem.run_pure]
  exact hK _ _ hk
theorem wp_lit1 {K : Act → World → Prop} (ht : P.underlying t = some (.slice e)) (hi : (P.info? e).map (·.size) = some sz) (hz : ∀ w, (zeroValue e).run P w = .ok (.agg zs.toArray) w) (hp : p.length = sz) (hs : sz ≤ 1000) (hpos : 0 < sz) (x : Operand) (ho : o.op = .buildSlice t 1 #[(0, x)]) (hx : a.eval x = .agg p.toArray)
    (hk : K (a.put o.dst (.slice (some ⟨w.heap.size, 0, none⟩) 1 1)) (w.alloc (.cells p.toArray e))) : o.wp P a w K Q := by
  unfold Oper.wp execOp
  simp only [ho, List.map_toArray, List.map_cons, List.map_nil, hx, run_lit1 ht hi hz hp hs hpos w, Sem.run_bind, Result.andThen_ok, Sem.run_pure]
  exact hk
end
end Go.Proofs.YtfpcabfpnekejaaDoor
namespace Go.Proofs.YtfpcabfpnekejaaDoor
open Go.RowKit Go.Maps

theorem take_all {cs : List Value} {n : Nat} (h : cs.length = n) : (cs.drop 0).take n = cs := by rw [List.drop_zero]; exact List.take_of_length_le (by omega)
section
variable {P : Program} {w : World} {ops : Array Oper} {rest : List Oper} {o : Oper} {a : Act} {Q : Exit → Act → World → Prop} {ty t : TypeId} {n g off : Nat} {cs p : List Value}
theorem still_loadC {next : Act → Prop} (hT : AggT P ty n) (x : Operand) (ho : o.op = .load ty x) (h : CB w g t cs) (hp : (cs.drop off).take n = p) (hl : off + n ≤ cs.length) (hx : a.eval x = .pointer (some ⟨g, off, none⟩))
    (hk : next (a.put o.dst (.agg p.toArray))) : o.still P a w next := by
  have hr := run_loadC hT h hp hl
  unfold Oper.still execOp
  simp only [ho, hx, Instr.loadAt, Instr.sureAddr, Sem.run_bind, Sem.run_pure, Result.andThen_ok, hr]
  exact ⟨rfl, hk⟩
theorem wp_loadC {K : Act → World → Prop} (hT : AggT P ty n) (x : Operand) (ho : o.op = .load ty x) (h : CB w g t cs) (hp : (cs.drop off).take n = p) (hl : off + n ≤ cs.length) (hx : a.eval x = .pointer (some ⟨g, off, none⟩))
    (hk : K (a.put o.dst (.agg p.toArray)) w) : o.wp P a w K Q := by
  unfold Oper.wp execOp
  simp only [ho, hx, Instr.loadAt, Instr.sureAddr, Sem.run_bind, Sem.run_pure, Result.andThen_ok, run_loadC hT h hp hl]
  exact hk
theorem wp_allocC {K : Act → World → Prop} (hz : ∀ w, (zeroValue ty).run P w = .ok (.agg cs.toArray) w) (ho : o.op = .alloc ty)
    (hk : K (a.put o.dst (.pointer (some ⟨w.heap.size, 0, none⟩))) (w.alloc (.cells cs.toArray ty))) : o.wp P a w K Q := by
  unfold Oper.wp execOp
  simp only [ho, Sem.run_bind, run_allocC hz w, Result.andThen_ok, Sem.run_pure]
  exact hk
/-- 'v, ok := m[k]' as a single operation. -/
theorem wp_lookV {K : Act → World → Prop} {k e : TypeId} {α β : Type} [DecidableEq α] {kv : α → Value} {vv : β → Value} {b : Nat} {M : List (α × β)} (KK : Keyed P k) (hi : ∀ a b : α, kv a = kv b → a = b) (m x : Operand) (hop : o.op = Op.lookup t m x true)
    (ht : P.underlying t = some (.map k e)) {z : Value} (hz : ∀ w, (zeroValue e).run P w = .ok z w) (h : MT P k kv vv w b M) (hm : a.eval m = .map (some b)) (ky : α) (hok : OkK P k kv ky) (hx : a.eval x = kv ky) (v : Value) (B : Bool)
    (h1 : ∀ u, (ky, u) ∈ M → v = vv u ∧ B = true) (h2 : ky ∉ keysM M → v = z ∧ B = false)
    (hk : K (a.put o.dst (.tuple #[v, .bool B])) w) : o.wp P a w K Q := by
  obtain ⟨u, ps, hrun, hv⟩ := h.2.look_ok KK ht (hz w) (zd := .held z) (zp := []) rfl hok
  have hv1 : u = v ∧ decide (ky ∈ keysM M) = B := by
    by_cases hin : ky ∈ keysM M
    · obtain ⟨y, hy⟩ := mem_keysM.1 hin
      rw [at_datM KK hi h.1 hy] at hv
      unfold RV at hv
      simp at hv
      obtain ⟨e1, e2⟩ := h1 y hy
      exact ⟨hv.1.trans e1.symm, by rw [e2]; exact decide_eq_true hin⟩
    · rw [Maps.atKey_of_not_has (by rw [has_datM KK hi h.1 hok]; exact decide_eq_false hin)] at hv
      unfold RV at hv
      simp at hv
      obtain ⟨e1, e2⟩ := h2 hin
      exact ⟨hv.1.trans e1.symm, by rw [e2]; exact decide_eq_false hin⟩
  rw [has_datM KK hi h.1 hok, hv1.2, hv1.1] at hrun
  unfold Oper.wp
  simp [execOp, hop, hm, hx, hrun, Result.andThen]
  exact hk
end
section
variable {P : Program} {k : TypeId} {α β : Type} {kv : α → Value} {vv : β → Value} {M : List (α × β)} {w : World} {ops : Array Oper} {rest : List Oper} {o : Oper} {a : Act} {Q : Exit → Act → World → Prop} {b : Nat} {t e : TypeId}
/-- 'm[k]', the key is there. -/
theorem wpList_look1In (K : Keyed P k) (hi : ∀ a b : α, kv a = kv b → a = b) (hg : o.guard = none) (m x : Operand) (hop : o.op = Op.lookup t m x false) (ht : P.underlying t = some (.map k e)) {z : Value} (hz : ∀ w, (zeroValue e).run P w = .ok z w)
    (h : MT P k kv vv w b M) (hm : a.eval m = .map (some b)) (ky : α) (v : β) (hx : a.eval x = kv ky) (hin : (ky, v) ∈ M)
    (hK : wpList P ops Q rest (a.put o.dst (vv v)) w) : wpList P ops Q (o :: rest) a w := by
  have hok : OkK P k kv ky := h.1.2 ky (mem_keysM.2 ⟨v, hin⟩)
  refine wpList_plain hg fun K' hK' => ?_
  obtain ⟨u, ps, hrun, hv⟩ := h.2.lookup K ht (hz w) (zd := .held z) (zp := []) rfl hok
  rw [at_datM K hi h.1 hin] at hv
  unfold RV at hv
  simp at hv
  rw [hv.1] at hrun
  unfold Oper.wp
  simp [execOp, hop, hm, hx, hrun, Result.andThen]
  exact hK' _ _ hK
end
end Go.Proofs.YtfpcabfpnekejaaDoor
