/- Single operations on blocks known by their cells. Plain lemmas, no program. -/
import Derived.Test.YtgamlioahdbikaaCb
import Derived.Test.YtgamlioahdbikaaInv
import Derived.Test.YtgamlioahdbikaaMpt
namespace Go.Proofs.Ytgamlioahdbikaa
open Go.RowKit Go.Maps

theorem over_all (cs p : List Value) (h : cs.length ≤ p.length) : over cs 0 p = p := by
  rw [over, List.take_zero, List.nil_append, List.drop_eq_nil_of_le (by omega), List.append_nil]
theorem CB.new1 (w : World) (o1 : Obj) (t : TypeId) (cs : List Value) : CB ((w.alloc o1).alloc (.cells cs.toArray t)) (w.heap.size + 1) t cs := by
  have := CB.new (w.alloc o1) t cs
  rw [World.size_alloc] at this
  exact this
theorem take_all {cs : List Value} {n : Nat} (h : cs.length = n) : (cs.drop 0).take n = cs := by rw [List.drop_zero]; exact List.take_of_length_le (by omega)
section
variable {P : Program} {w : World} {ops : Array Oper} {rest : List Oper} {o : Oper} {a : Act} {Q : Exit → Act → World → Prop} {ty t : TypeId} {n g off : Nat} {cs p : List Value}
theorem run_allocC (hz : ∀ w, (zeroValue ty).run P w = .ok (.agg cs.toArray) w) (w : World) :
    (Instr.alloc ty true (.tuple #[])).run P w = .ok (.pointer (some ⟨w.heap.size, 0, none⟩)) (w.alloc (.cells cs.toArray ty)) := by
  simp [Instr.alloc, hz, newVar, newRow, Value.cells]
theorem wpList_allocC (hz : ∀ w, (zeroValue ty).run P w = .ok (.agg cs.toArray) w) (hgd : o.guard = none) (ho : o.op = .alloc ty)
    (hk : wpList P ops Q rest (a.put o.dst (.pointer (some ⟨w.heap.size, 0, none⟩))) (w.alloc (.cells cs.toArray ty))) : wpList P ops Q (o :: rest) a w := by
  refine wpList_plain hgd fun K hK => ?_
  unfold Oper.wp execOp
  simp only [ho, Sem.run_bind, run_allocC hz w, Result.andThen_ok, Sem.run_pure]
  exact hK _ _ hk
theorem still_loadC {next : Act → Prop} (hT : AggT P ty n) (x : Operand) (ho : o.op = .load ty x) (h : CB w g t cs) (hp : (cs.drop off).take n = p) (hl : off + n ≤ cs.length) (hx : a.eval x = .pointer (some ⟨g, off, none⟩))
    (hk : next (a.put o.dst (.agg p.toArray))) : o.still P a w next := by
  have hr := run_loadC hT h hp hl
  unfold Oper.still execOp
  simp only [ho, hx, Instr.loadAt, Instr.sureAddr, Sem.run_bind, Sem.run_pure, Result.andThen_ok, hr]
  exact ⟨rfl, hk⟩
theorem wp_loadC {K : Act → World → Prop} (hT : AggT P ty n) (x : Operand) (ho : o.op = .load ty x) (h : CB w g t cs) (hp : (cs.drop off).take n = p) (hl : off + n ≤ cs.length) (hx : a.eval x = .pointer (some ⟨g, off, none⟩))
    (hk : K (a.put o.dst (.agg p.toArray)) w) : o.wp P a w K Q := by
  unfold Oper.wp execOp
  simp only [ho, hx, Instr.loadAt, Instr.sureAddr, Sem.run_bind, Sem.run_pure, Result.andThen_ok, run_loadC hT h hp hl]
  exact hk
theorem wp_allocC {K : Act → World → Prop} (hz : ∀ w, (zeroValue ty).run P w = .ok (.agg cs.toArray) w) (ho : o.op = .alloc ty)
    (hk : K (a.put o.dst (.pointer (some ⟨w.heap.size, 0, none⟩))) (w.alloc (.cells cs.toArray ty))) : o.wp P a w K Q := by
  unfold Oper.wp execOp
  simp only [ho, Sem.run_bind, run_allocC hz w, Result.andThen_ok, Sem.run_pure]
  exact hk
theorem wp_storeC {K : Act → World → Prop} (hi : (P.info? ty).map (·.size) = some n) (x y : Operand) (ho : o.op = .store ty x y) (v : Value) (hv : v.cells = p.toArray) (h1 : ∀ u ∈ p, u.oneCell' = true) (h : CB w g t cs) (hp : p.length = n) (hl : off + n ≤ cs.length)
    (hx : a.eval x = .pointer (some ⟨g, off, none⟩)) (hy : a.eval y = v)
    (hk : ∀ w', CB w' g t (over cs off p) → w.grownBy w' (some g) → K (a.put o.dst undef) w') : o.wp P a w K Q := by
  unfold Oper.wp execOp
  simp only [ho, hx, hy, Instr.storeAt, Instr.sureAddr, Sem.run_bind, Sem.run_pure, Result.andThen_ok, run_storeC hi v hv h1 h hp hl]
  exact hk _ (h.over off p) (grown_setRow _ _ _)
/-- Nothing is stored where no cell is. -/
theorem grown_nothing {w w' : World} (h : CB w g t []) (h' : CB w' g t []) (hg : w.grownBy w' (some g)) : w.grownBy w' none :=
  ⟨hg.os, hg.tape, hg.output, hg.size, fun i hi _ => by
    by_cases e : i = g
    · rw [e]; exact h'.trans h.symm
    · exact hg.block i hi (fun e' => e (by injection e'))⟩
/-- 'v, ok := m[k]' as a single operation. -/
theorem wp_lookM {K : Act → World → Prop} {k e : TypeId} {α β : Type} [DecidableEq α] {kv : α → Value} {vv : β → Value} {b : Nat} {M : List (α × β)} (KK : Keyed P k) (hi : ∀ a b : α, kv a = kv b → a = b) (m x : Operand) (hop : o.op = Op.lookup t m x true)
    (ht : P.underlying t = some (.map k e)) {z : Value} (hz : ∀ w, (zeroValue e).run P w = .ok z w) (h : MT P k kv vv w b M) (hm : a.eval m = .map (some b)) (ky : α) (hok : OkK P k kv ky) (hx : a.eval x = kv ky) (hzv : ∀ v, (ky, v) ∈ M → vv v = z) (B : Bool) (hB : B = true ↔ ky ∈ keysM M)
    (hk : K (a.put o.dst (.tuple #[z, .bool B])) w) : o.wp P a w K Q := by
  have hBe : decide (ky ∈ keysM M) = B := by rw [Bool.eq_iff_iff, decide_eq_true_iff, hB]
  obtain ⟨v, ps, hrun, hv⟩ := h.2.look_ok KK ht (hz w) (zd := .held z) (zp := []) rfl hok
  have hv1 : v = z := by
    by_cases hin : ky ∈ keysM M
    · obtain ⟨u, hu⟩ := mem_keysM.1 hin
      rw [at_datM KK hi h.1 hu] at hv
      unfold RV at hv
      simp at hv
      rw [hv.1, hzv u hu]
    · rw [Maps.atKey_of_not_has (by rw [has_datM KK hi h.1 hok]; exact decide_eq_false hin)] at hv
      unfold RV at hv
      simp at hv
      exact hv.1
  subst hv1
  rw [has_datM KK hi h.1 hok, hBe] at hrun
  unfold Oper.wp
  simp [execOp, hop, hm, hx, hrun, Result.andThen]
  exact hk
end
end Go.Proofs.Ytgamlioahdbikaa
