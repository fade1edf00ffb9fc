/- Single operations on blocks known by their cells; maps as single operations. Plain lemmas, no program. -/
import Derived.Test.YtaanhancjmigdaaDoorBrN
import Derived.Test.YtaanhancjmigdaaDoorInm
import Derived.Test.YtaanhancjmigdaaDoorMpt
import Derived.Test.YtaanhancjmigdaaDoorLit
namespace Go.Proofs.YtaanhancjmigdaaDoor
open Go.RowKit Go.Maps

theorem take_all {cs : List Value} {n : Nat} (h : cs.length = n) : (cs.drop 0).take n = cs := by rw [List.drop_zero]; exact List.take_of_length_le (by omega)
section
variable {P : Program} {w : World} {ops : Array Oper} {rest : List Oper} {o : Oper} {a : Act} {Q : Exit → Act → World → Prop} {ty t : TypeId} {n g off : Nat} {cs p : List Value}
theorem still_loadC {next : Act → Prop} (hT : AggT P ty n) (x : Operand) (ho : o.op = .load ty x) (h : CB w g t cs) (hp : (cs.drop off).take n = p) (hl : off + n ≤ cs.length) (hx : a.eval x = .pointer (some ⟨g, off, none⟩))
    (hk : next (a.put o.dst (.agg p.toArray))) : o.still P a w next := by
  have hr := run_loadC hT h hp hl
  unfold Oper.still execOp
  simp only [ho, hx, Instr.loadAt, Instr.sureAddr, Sem.run_bind, Sem.run_pure, Result.andThen_ok, hr]
  exact ⟨rfl, hk⟩
theorem wp_loadC {K : Act → World → Prop} (hT : AggT P ty n) (x : Operand) (ho : o.op = .load ty x) (h : CB w g t cs) (hp : (cs.drop off).take n = p) (hl : off + n ≤ cs.length) (hx : a.eval x = .pointer (some ⟨g, off, none⟩))
    (hk : K (a.put o.dst (.agg p.toArray)) w) : o.wp P a w K Q := by
  unfold Oper.wp execOp
  simp only [ho, hx, Instr.loadAt, Instr.sureAddr, Sem.run_bind, Sem.run_pure, Result.andThen_ok, run_loadC hT h hp hl]
  exact hk
theorem wp_allocC {K : Act → World → Prop} (hz : ∀ w, (zeroValue ty).run P w = .ok (.agg cs.toArray) w) (ho : o.op = .alloc ty)
    (hk : K (a.put o.dst (.pointer (some ⟨w.heap.size, 0, none⟩))) (w.alloc (.cells cs.toArray ty))) : o.wp P a w K Q := by
  unfold Oper.wp execOp
  simp only [ho, Sem.run_bind, run_allocC hz w, Result.andThen_ok, Sem.run_pure]
  exact hk
/-- 'v, ok := m[k]' as a single operation. -/
theorem wp_lookV {K : Act → World → Prop} {k e : TypeId} {α β : Type} [DecidableEq α] {kv : α → Value} {vv : β → Value} {b : Nat} {M : List (α × β)} (KK : Keyed P k) (hi : ∀ a b : α, kv a = kv b → a = b) (m x : Operand) (hop : o.op = Op.lookup t m x true)
    (ht : P.underlying t = some (.map k e)) {z : Value} (hz : ∀ w, (zeroValue e).run P w = .ok z w) (h : MT P k kv vv w b M) (hm : a.eval m = .map (some b)) (ky : α) (hok : OkK P k kv ky) (hx : a.eval x = kv ky) (v : Value) (B : Bool)
    (h1 : ∀ u, (ky, u) ∈ M → v = vv u ∧ B = true) (h2 : ky ∉ keysM M → v = z ∧ B = false)
    (hk : K (a.put o.dst (.tuple #[v, .bool B])) w) : o.wp P a w K Q := by
  obtain ⟨u, ps, hrun, hv⟩ := h.2.look_ok KK ht (hz w) (zd := .held z) (zp := []) rfl hok
  have hv1 : u = v ∧ decide (ky ∈ keysM M) = B := by
    by_cases hin : ky ∈ keysM M
    · obtain ⟨y, hy⟩ := mem_keysM.1 hin
      rw [at_datM KK hi h.1 hy] at hv
      unfold RV at hv
      simp at hv
      obtain ⟨e1, e2⟩ := h1 y hy
      exact ⟨hv.1.trans e1.symm, by rw [e2]; exact decide_eq_true hin⟩
    · rw [Maps.atKey_of_not_has (by rw [has_datM KK hi h.1 hok]; exact decide_eq_false hin)] at hv
      unfold RV at hv
      simp at hv
      obtain ⟨e1, e2⟩ := h2 hin
      exact ⟨hv.1.trans e1.symm, by rw [e2]; exact decide_eq_false hin⟩
  rw [has_datM KK hi h.1 hok, hv1.2, hv1.1] at hrun
  unfold Oper.wp
  simp [execOp, hop, hm, hx, hrun, Result.andThen]
  exact hk
end
section
variable {P : Program} {k : TypeId} {α β : Type} {kv : α → Value} {vv : β → Value} {M : List (α × β)} {w : World} {ops : Array Oper} {rest : List Oper} {o : Oper} {a : Act} {Q : Exit → Act → World → Prop} {b : Nat} {t e : TypeId}
/-- 'm[k]', the key is there. -/
theorem wpList_look1In (K : Keyed P k) (hi : ∀ a b : α, kv a = kv b → a = b) (hg : o.guard = none) (m x : Operand) (hop : o.op = Op.lookup t m x false) (ht : P.underlying t = some (.map k e)) {z : Value} (hz : ∀ w, (zeroValue e).run P w = .ok z w)
    (h : MT P k kv vv w b M) (hm : a.eval m = .map (some b)) (ky : α) (v : β) (hx : a.eval x = kv ky) (hin : (ky, v) ∈ M)
    (hK : wpList P ops Q rest (a.put o.dst (vv v)) w) : wpList P ops Q (o :: rest) a w := by
  have hok : OkK P k kv ky := h.1.2 ky (mem_keysM.2 ⟨v, hin⟩)
  refine wpList_plain hg fun K' hK' => ?_
  obtain ⟨u, ps, hrun, hv⟩ := h.2.lookup K ht (hz w) (zd := .held z) (zp := []) rfl hok
  rw [at_datM K hi h.1 hin] at hv
  unfold RV at hv
  simp at hv
  rw [hv.1] at hrun
  unfold Oper.wp
  simp [execOp, hop, hm, hx, hrun, Result.andThen]
  exact hK' _ _ hK
end
end Go.Proofs.YtaanhancjmigdaaDoor
