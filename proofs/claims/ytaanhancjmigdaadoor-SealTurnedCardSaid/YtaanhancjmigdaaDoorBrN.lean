/- Regions that leave their order open, where several operations may come up; single operations in such a region. Plain lemmas. -/
import Derived.Test.YtaanhancjmigdaaDoorAux
namespace Go.Proofs.YtaanhancjmigdaaDoor
open Go.RowKit

theorem CB.row_ {w w' : World} {g : Nat} {t : TypeId} {cs : List Value} {v : Value} (h : CB w g t cs) (hg : w.grownBy w' v.ownBlock) (hr : ∀ x, v.ownBlock = some x → x ≠ g) : CB w' g t cs := (hg.block g h.lt (fun e => hr g e.symm rfl)).trans h
theorem ba_inj {a b : ByteArray} (h : a.data.toList = b.data.toList) : a = b := ByteArray.ext (Array.ext' h)
theorem cell_heap {w : World} {g : Nat} {cs : Array Value} {t : TypeId} (h : w.heap[g]? = some (.cells cs t (0, 0))) (k : Nat) : w.cell? ⟨g, k, none⟩ = cs[k]? := cell_of_row w g k cs t (0, 0) h
theorem strs_one (ls : List ByteArray) : ∀ u ∈ ls.map Value.string, u.oneCell' = true := by
  intro u hu
  obtain ⟨_, _, rfl⟩ := List.mem_map.1 hu
  rfl
section
variable {P : Program} {w : World} {ops : Array Oper} {rest : List Oper} {o : Oper} {a : Act} {Q : Exit → Act → World → Prop}
end

section
variable {P : Program} {ops : Array Oper} {Q : Exit → Act → World → Prop} {md : Region.Mode} {B : Nat} {w0 : World}
/-- What is asked of an operation that may come up. -/
def Up (P : Program) (ops : Array Oper) (Q : Exit → Act → World → Prop) (md : Region.Mode) (B : Nat) (w0 : World) (fuel : Nat) (listed : Array Bool) (i : Nat) (o : Oper) (a : Act) (w : World) : Prop :=
  ∀ K : Act → World → Prop, Shut (∀ a' w', Below B w0 w' → (Below B w0 w' → wpAnyH P md ops Q (fun x => Below B w0 x) fuel (listed.setIfInBounds i true) a' w') → K a' w') → o.wp P a w K Q
theorem up_op {fuel : Nat} {listed : Array Bool} {i : Nat} {o : Oper} {a : Act} {w : World} (hi : ops[i]? = some o) (hw : Region.wanted o (yielded ops a.tmps) = true) (h : Up P ops Q md B w0 fuel listed i o a w) :
    wpOp P ops Q i (fun a' w' => Below B w0 w' ∧ wpAnyH P md ops Q (fun x => Below B w0 x) fuel (listed.setIfInBounds i true) a' w') a w := by
  unfold wpOp
  rw [hi]
  simp only [hw, if_true]
  exact .inl (h _ fun a' w' hf hh => ⟨hf, hh hf⟩)
theorem heldb_two {i j : Nat} {oi oj : Oper} {fuel : Nat} {listed : Array Bool} {a : Act} {w : World} (hr : Region.ready md ops listed = [i, j]) (hi : ops[i]? = some oi) (hj : ops[j]? = some oj)
    (hwi : Region.wanted oi (yielded ops a.tmps) = true) (hwj : Region.wanted oj (yielded ops a.tmps) = true)
    (h1 : Up P ops Q md B w0 fuel listed i oi a w) (h2 : Up P ops Q md B w0 fuel listed j oj a w) : wpAnyH P md ops Q (fun x => Below B w0 x) (fuel + 1) listed a w := by
  refine wpAnyH_all hr (by simp) fun k hk => ?_
  simp only [List.mem_cons, List.not_mem_nil, or_false] at hk
  rcases hk with rfl | rfl
  · exact up_op hi hwi h1
  · exact up_op hj hwj h2
end
section
variable {P : Program} {w : World} {o : Oper} {d : Option Tmp} {a : Act} {K : Act → World → Prop} {Q : Exit → Act → World → Prop} {ty t e : TypeId} {n g off : Nat} {cs p : List Value}
theorem wp_storeC (hi : (P.info? ty).map (·.size) = some n) (hd : o.dst = d) (x y : Operand) (ho : o.op = .store ty x y) (v : Value) (hv : v.cells = p.toArray) (h1 : ∀ u ∈ p, u.oneCell' = true) (h : CB w g t cs) (hp : p.length = n) (hl : off + n ≤ cs.length)
    (hx : a.eval x = .pointer (some ⟨g, off, none⟩)) (hy : a.eval y = v)
    (hk : ∀ w', CB w' g t (over cs off p) → w.grownBy w' (some g) → K (a.put d undef) w') : o.wp P a w K Q := by
  subst hd
  unfold Oper.wp execOp
  simp only [ho, hx, hy, Instr.storeAt, Instr.sureAddr, Sem.run_bind, Sem.run_pure, Result.andThen_ok, run_storeC hi v hv h1 h hp hl]
  exact hk _ (h.over off p) (grown_setRow _ _ _)
end
/-- '[]string{s}'. -/
theorem wp_litS {P : Program} {w : World} {o : Oper} {d : Option Tmp} {a : Act} {K : Act → World → Prop} {Q : Exit → Act → World → Prop} {e : TypeId} (s : ByteArray) (_hd : o.dst = d)
    (hrun : o.wp P a w (fun a' w' => a' = a.put d (.slice (some ⟨w.heap.size, 0, none⟩) 1 1) ∧ w' = w.alloc (.cells #[.string s] e)) Q)
    (hk : ∀ g w', g = w.heap.size → w'.cell? ⟨g, 0, none⟩ = some (.string s) → w.grownBy w' none → K (a.put d (.slice (some ⟨g, 0, none⟩) 1 1)) w') : o.wp P a w K Q := by
  refine Oper.wp_mono (fun a' w' h => ?_) hrun
  obtain ⟨rfl, rfl⟩ := h
  exact hk _ _ rfl (cell_heap (heap_alloc_new w _) 0) (grown_alloc _ _ _)
theorem yields_sliceS {P : Program} {ops : Array Oper} {S : World → Prop} {oi : Oper} {a : Act} {t : TypeId} {u v vl vh : Value} (x xl xh : Operand) (ho : oi.op = .slice t x (some xl) (some xh) none) (hw : Region.wanted oi (yielded ops a.tmps) = true) (hx : a.eval x = u) (hl : a.eval xl = vl) (hh : a.eval xh = vh)
    (h : ∀ wx, (Instr.sliceAt t u (some vl) (some vh) none).run P wx = .ok v wx) : YieldsIf P ops S oi v a := by
  refine .inl ⟨hw, fun wx _ => ?_⟩
  unfold execOp
  simp only [ho, hx, hl, hh, Option.map_some, Option.map_none, Sem.run_bind, Sem.run_pure, Result.andThen_ok, h wx]
theorem below_row {B : Nat} {w w' : World} {r : Option Nat} (hg : w.grownBy w' r) (hB : B ≤ w.heap.size) (hr : ∀ g, r = some g → B ≤ g) : Below B w w' :=
  ⟨hg.os, hg.tape, hg.output, hg.size, fun i hi => hg.block i (Nat.lt_of_lt_of_le hi hB) (fun e => by have := hr i e.symm; omega)⟩

/-! A text, parted at its first 64; the parts ahead of it. -/
theorem ext_data (s : ByteArray) (l : List UInt8) (hl : s.data.toList = l) (a b : Nat) : (s.extract a b).data.toList = (l.take b).drop a := by
  subst hl
  simp [ByteArray.data_extract, Array.toList_extract, List.extract, List.drop_take]
theorem parts_keep {a : List UInt8} {f i : Nat} (hf : f ≤ i) (hi : i < a.length) (hn : (47 : UInt8) ∉ (a.drop f).take (i - f)) (hx : a[i] ≠ 47) : (47 : UInt8) ∉ (a.drop f).take (i + 1 - f) := by
  rw [show i + 1 - f = (i - f) + 1 by omega, List.take_succ_eq_append_getElem (by rw [List.length_drop]; omega)]
  intro e
  rcases List.mem_append.1 e with e | e
  · exact hn e
  · rw [List.mem_singleton, List.getElem_drop] at e
    apply hx
    rw [e]
    congr 1
    omega
section
variable {P : Program} {w : World} {ops : Array Oper} {rest : List Oper} {o : Oper} {a : Act} {Q : Exit → Act → World → Prop} {ty : TypeId} {cs : List Value}
theorem run_allocC (hz : ∀ w, (zeroValue ty).run P w = .ok (.agg cs.toArray) w) (w : World) :
    (Instr.alloc ty true (.tuple #[])).run P w = .ok (.pointer (some ⟨w.heap.size, 0, none⟩)) (w.alloc (.cells cs.toArray ty)) := by
  simp [Instr.alloc, hz, newVar, newRow, Value.cells]
theorem wpList_allocC (hz : ∀ w, (zeroValue ty).run P w = .ok (.agg cs.toArray) w) (hgd : o.guard = none) (ho : o.op = .alloc ty)
    (hk : wpList P ops Q rest (a.put o.dst (.pointer (some ⟨w.heap.size, 0, none⟩))) (w.alloc (.cells cs.toArray ty))) : wpList P ops Q (o :: rest) a w := by
  refine wpList_plain hgd fun K hK => ?_
  unfold Oper.wp execOp
  simp only [ho, Sem.run_bind, run_allocC hz w, Result.andThen_ok, Sem.run_pure]
  exact hK _ _ hk
theorem results_C2 {fn : Func} {p q : Tmp} {n g : Nat} {t : TypeId} {v : Value} (hr : fn.results = #[.cell p ty, .tmp q]) (tmps : Array Value) (hT : AggT P ty n) (h : CB w g t cs) (hl : cs.length = n) (hp : tmps.getD p undef = .pointer (some ⟨g, 0, none⟩)) (hq : tmps.getD q undef = v) :
    (results fn tmps).run P w = .ok (.tuple #[.agg cs.toArray, v]) w := by
  have hp' : tmps[p]?.getD undef = .pointer (some ⟨g, 0, none⟩) := by simpa using hp
  have hq' : tmps[q]?.getD undef = v := by simpa using hq
  have hld := run_loadC (P := P) (p := cs) (off := 0) hT h (by rw [List.drop_zero]; exact List.take_of_length_le (by omega)) (by omega)
  simp [results, hr, hp', hq', asAddr, hld]
end
theorem wpList_buildV {P : Program} {ops : Array Oper} {Q : Exit → Act → World → Prop} {rest : List Oper} {o : Oper} {a : Act} {w : World} {t : TypeId} {parts : Array (Nat × Operand)} {ps : Array (Nat × Value)} {v : Value} (hgd : o.guard = none) (ho : o.op = .build t parts) (hp : parts.map (fun (i, x) => (i, a.eval x)) = ps) (hr : (Instr.build t ps).run P w = .ok v w)
    (hk : wpList P ops Q rest (a.put o.dst v) w) : wpList P ops Q (o :: rest) a w := by
  refine wpList_plain hgd fun K hK => ?_
  unfold Oper.wp execOp
  have hp' : parts.map (fun (i, x) => (i, a.eval x)) = ps := hp
  simp only [ho, hp', Sem.run_bind, Sem.run_pure, Result.andThen_ok, hr]
  exact hK _ _ hk
end Go.Proofs.YtaanhancjmigdaaDoor
