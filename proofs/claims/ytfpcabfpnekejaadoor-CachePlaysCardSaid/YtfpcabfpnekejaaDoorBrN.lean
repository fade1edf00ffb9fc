/- Regions that leave their order open, where several operations may come up; single operations in such a region. Plain lemmas. -/
import Derived.Test.YtfpcabfpnekejaaDoorWr
namespace Go.Proofs.YtfpcabfpnekejaaDoor
open Go.RowKit

theorem CB.row_ {w w' : World} {g : Nat} {t : TypeId} {cs : List Value} {v : Value} (h : CB w g t cs) (hg : w.grownBy w' v.ownBlock) (hr : ∀ x, v.ownBlock = some x → x ≠ g) : CB w' g t cs := (hg.block g h.lt (fun e => hr g e.symm rfl)).trans h
theorem ba_inj {a b : ByteArray} (h : a.data.toList = b.data.toList) : a = b := ByteArray.ext (Array.ext' h)
theorem dl_inj : ∀ {ls ms : List ByteArray}, dl ls = dl ms → ls = ms
  | [], [], _ => rfl
  | [], _ :: _, h => by simp [dl] at h
  | _ :: _, [], h => by simp [dl] at h
  | a :: ls, b :: ms, h => by
    simp only [dl, List.map_cons, List.cons.injEq] at h
    rw [ba_inj h.1, dl_inj (ls := ls) (ms := ms) h.2]
theorem cell_heap {w : World} {g : Nat} {cs : Array Value} {t : TypeId} (h : w.heap[g]? = some (.cells cs t (0, 0))) (k : Nat) : w.cell? ⟨g, k, none⟩ = cs[k]? := cell_of_row w g k cs t (0, 0) h
/-- A row of strings of the call's own. -/
def OwnS (w : World) (base : Nat) (e : TypeId) (v : Value) (ls : List ByteArray) : Prop := w.ownsRow base e 1 v ls.length (ls.map Value.string)
/-- What the program says of its type of slices of strings. -/
structure StrT (P : Program) (t e : TypeId) : Prop where
  ht : P.underlying t = some (.slice e)
  hi : (P.info? e).map (fun i => (i.zero, i.size, i.bytes)) = some (some (.string ⟨#[]⟩), 1, 16)
theorem strT : StrT Tryd.prog 47 9 := ⟨Tryd.underlying47, by kernel_rfl⟩
theorem strs_one (ls : List ByteArray) : ∀ u ∈ ls.map Value.string, u.oneCell' = true := by
  intro u hu
  obtain ⟨_, _, rfl⟩ := List.mem_map.1 hu
  rfl
theorem OwnS.nil_ (w : World) (base : Nat) (e : TypeId) : OwnS w base e (.slice none 0 0) [] := World.ownsRow_nil w base e 1
theorem OwnS.shape {w : World} {base : Nat} {e : TypeId} {v : Value} {ls : List ByteArray} (h : OwnS w base e v ls) : ∃ A cap, v = .slice A ls.length cap ∧ NS w w.heap.size A ls cap ∧ (∀ g, v.ownBlock = some g → base ≤ g ∧ g < w.heap.size) := by
  rcases h.2 with ⟨rfl, hl⟩ | ⟨g, cap, cur, rfl, hb, hg, hc, hm, _⟩
  · have : ls = [] := List.eq_nil_of_length_eq_zero hl
    subst this
    exact ⟨none, 0, rfl, NS.nil_ _ _, fun g hg => by simp [Value.ownBlock] at hg⟩
  · have hlt := (Array.getElem?_eq_some_iff.1 hg).1
    refine ⟨_, cap, rfl, ⟨hc, hm, .inr ⟨_, rfl, fun k s hs => ⟨hlt, ?_⟩⟩⟩, fun g' hg' => by simp [Value.ownBlock] at hg'; omega⟩
    exact h.cells (g := g) rfl k (.string s) (by rw [List.getElem?_map, hs]; rfl)
theorem OwnS.row {w w' : World} {base : Nat} {e : TypeId} {v : Value} {ls : List ByteArray} {g : Nat} (h : OwnS w base e v ls) (hg : w.grownBy w' (some g)) (hne : ∀ x, v.ownBlock = some x → x ≠ g) : OwnS w' base e v ls :=
  World.ownsRow.kept h hg (.inr (fun e => hne g e rfl))
theorem OwnS.kept_ {w w' : World} {base : Nat} {e : TypeId} {v : Value} {ls : List ByteArray} (h : OwnS w base e v ls) (hg : w.grownBy w' none) : OwnS w' base e v ls :=
  World.ownsRow.kept h hg (by cases hv : v.ownBlock <;> simp)
theorem OwnS.shape_lt {w : World} {base : Nat} {e : TypeId} {v : Value} {ls : List ByteArray} (h : OwnS w base e v ls) : ∀ g, v.ownBlock = some g → base ≤ g ∧ g < w.heap.size := by
  obtain ⟨_, _, _, _, h⟩ := h.shape
  exact h
theorem slSize : (Tryd.prog.info? 47).map (·.size) = some 1 := by kernel_rfl
section
variable {P : Program} {w : World} {ops : Array Oper} {rest : List Oper} {o : Oper} {a : Act} {Q : Exit → Act → World → Prop}
theorem run_appStr {t e : TypeId} (hT : StrT P t e) (ty : TypeId) {base : Nat} {v : Value} {ls : List ByteArray} (hown : OwnS w base e v ls) {ad : Addr} {p : ByteArray} {c : Nat} (hp : w.cell? ad = some (.string p)) (hlen : ls.length ≤ 1000000) (hbase : base ≤ w.heap.size) :
    ∃ v' w', (Builtin.append_ #[t, t] ty #[v, .slice (some ad) 1 c]).run P w = .ok v' w' ∧ OwnS w' base e v' (ls ++ [p]) ∧ w.grownBy w' v.ownBlock ∧ (v'.ownBlock = v.ownBlock ∨ v'.ownBlock = some w.heap.size) := by
  obtain ⟨i0, hi, hz0, hz1, hz2⟩ := info_parts hT.hi
  obtain ⟨v', w', hrun, ho, hg, _, hat⟩ := run_append_own_at (P := P) (w := w) base t ty e i0 (.string ⟨#[]⟩) 1 16 hT.ht hi hz0 hz1 hz2 rfl (by decide) v ls.length (ls.map Value.string) hown
    ad 1 c [.string p] rfl (fun j u hu => by
      match j with
      | 0 => simp at hu; subst hu; simpa [Addr.add] using hp
      | j + 1 => simp at hu) (fun u hu => by rw [List.mem_singleton.1 hu]; rfl) (by unfold maxLen; omega) (by omega) hbase
  refine ⟨v', w', hrun, ?_, hg, hat⟩
  unfold OwnS
  rw [List.length_append, List.map_append]
  exact ho
theorem wpList_appStr {t e : TypeId} (hT : StrT P t e) (hgd : o.guard = none) (s x : Operand)
    (ho : o.op = .call { callee := .builtin .append, args := #[s, x], argTypes := #[t, t] })
    {base : Nat} {v : Value} {ls : List ByteArray} (hown : OwnS w base e v ls) {ad : Addr} {p : ByteArray} {c : Nat} (hp : w.cell? ad = some (.string p))
    (hs : a.eval s = v) (hx : a.eval x = .slice (some ad) 1 c) (hlen : ls.length ≤ 1000000) (hbase : base ≤ w.heap.size)
    (h : ∀ v' w', OwnS w' base e v' (ls ++ [p]) → w.grownBy w' v.ownBlock → (v'.ownBlock = v.ownBlock ∨ v'.ownBlock = some w.heap.size) → wpList P ops Q rest (a.put o.dst v') w') : wpList P ops Q (o :: rest) a w := by
  refine wpList_plain hgd fun K hK => ?_
  obtain ⟨v', w', hrun, h2, h3, h5⟩ := run_appStr (c := c) hT o.type hown hp hlen hbase
  unfold Oper.wp execOp
  simp only [ho, resolve, invoke, builtin, Sem.run_bind, Sem.run_pure, Result.andThen_ok, List.map_toArray, List.map_cons, List.map_nil, hs, hx, hrun]
  exact hK _ _ (h v' w' h2 h3 h5)
end

section
variable {P : Program} {ops : Array Oper} {Q : Exit → Act → World → Prop} {md : Region.Mode} {B : Nat} {w0 : World}
/-- What is asked of an operation that may come up. -/
def Up (P : Program) (ops : Array Oper) (Q : Exit → Act → World → Prop) (md : Region.Mode) (B : Nat) (w0 : World) (fuel : Nat) (listed : Array Bool) (i : Nat) (o : Oper) (a : Act) (w : World) : Prop :=
  ∀ K : Act → World → Prop, Shut (∀ a' w', Below B w0 w' → (Below B w0 w' → wpAnyH P md ops Q (fun x => Below B w0 x) fuel (listed.setIfInBounds i true) a' w') → K a' w') → o.wp P a w K Q
theorem up_op {fuel : Nat} {listed : Array Bool} {i : Nat} {o : Oper} {a : Act} {w : World} (hi : ops[i]? = some o) (hw : Region.wanted o (yielded ops a.tmps) = true) (h : Up P ops Q md B w0 fuel listed i o a w) :
    wpOp P ops Q i (fun a' w' => Below B w0 w' ∧ wpAnyH P md ops Q (fun x => Below B w0 x) fuel (listed.setIfInBounds i true) a' w') a w := by
  unfold wpOp
  rw [hi]
  simp only [hw, if_true]
  exact .inl (h _ fun a' w' hf hh => ⟨hf, hh hf⟩)
theorem heldb_two {i j : Nat} {oi oj : Oper} {fuel : Nat} {listed : Array Bool} {a : Act} {w : World} (hr : Region.ready md ops listed = [i, j]) (hi : ops[i]? = some oi) (hj : ops[j]? = some oj)
    (hwi : Region.wanted oi (yielded ops a.tmps) = true) (hwj : Region.wanted oj (yielded ops a.tmps) = true)
    (h1 : Up P ops Q md B w0 fuel listed i oi a w) (h2 : Up P ops Q md B w0 fuel listed j oj a w) : wpAnyH P md ops Q (fun x => Below B w0 x) (fuel + 1) listed a w := by
  refine wpAnyH_all hr (by simp) fun k hk => ?_
  simp only [List.mem_cons, List.not_mem_nil, or_false] at hk
  rcases hk with rfl | rfl
  · exact up_op hi hwi h1
  · exact up_op hj hwj h2
end
section
variable {P : Program} {w : World} {o : Oper} {d : Option Tmp} {a : Act} {K : Act → World → Prop} {Q : Exit → Act → World → Prop} {ty t e : TypeId} {n g off : Nat} {cs p : List Value}
theorem wp_storeC (hi : (P.info? ty).map (·.size) = some n) (hd : o.dst = d) (x y : Operand) (ho : o.op = .store ty x y) (v : Value) (hv : v.cells = p.toArray) (h1 : ∀ u ∈ p, u.oneCell' = true) (h : CB w g t cs) (hp : p.length = n) (hl : off + n ≤ cs.length)
    (hx : a.eval x = .pointer (some ⟨g, off, none⟩)) (hy : a.eval y = v)
    (hk : ∀ w', CB w' g t (over cs off p) → w.grownBy w' (some g) → K (a.put d undef) w') : o.wp P a w K Q := by
  subst hd
  unfold Oper.wp execOp
  simp only [ho, hx, hy, Instr.storeAt, Instr.sureAddr, Sem.run_bind, Sem.run_pure, Result.andThen_ok, run_storeC hi v hv h1 h hp hl]
  exact hk _ (h.over off p) (grown_setRow _ _ _)
theorem wp_appS (hT : StrT P t e) (hd : o.dst = d) (s x : Operand)
    (ho : o.op = .call { callee := .builtin .append, args := #[s, x], argTypes := #[t, t] })
    {base : Nat} {v : Value} {ls : List ByteArray} (hown : OwnS w base e v ls) {ad : Addr} {p : ByteArray} {c : Nat} (hp : w.cell? ad = some (.string p))
    (hs : a.eval s = v) (hx : a.eval x = .slice (some ad) 1 c) (hlen : ls.length ≤ 1000000) (hbase : base ≤ w.heap.size)
    (h : ∀ v' w', OwnS w' base e v' (ls ++ [p]) → w.grownBy w' v.ownBlock → (v'.ownBlock = v.ownBlock ∨ v'.ownBlock = some w.heap.size) → K (a.put d v') w') : o.wp P a w K Q := by
  subst hd
  obtain ⟨v', w', hrun, h2, h3, h5⟩ := run_appStr (c := c) hT o.type hown hp hlen hbase
  unfold Oper.wp execOp
  simp only [ho, resolve, invoke, builtin, Sem.run_bind, Sem.run_pure, Result.andThen_ok, List.map_toArray, List.map_cons, List.map_nil, hs, hx, hrun]
  exact h v' w' h2 h3 h5
end
/-- '[]string{s}'. -/
theorem wp_litS {P : Program} {w : World} {o : Oper} {d : Option Tmp} {a : Act} {K : Act → World → Prop} {Q : Exit → Act → World → Prop} {e : TypeId} (s : ByteArray) (_hd : o.dst = d)
    (hrun : o.wp P a w (fun a' w' => a' = a.put d (.slice (some ⟨w.heap.size, 0, none⟩) 1 1) ∧ w' = w.alloc (.cells #[.string s] e)) Q)
    (hk : ∀ g w', g = w.heap.size → w'.cell? ⟨g, 0, none⟩ = some (.string s) → w.grownBy w' none → K (a.put d (.slice (some ⟨g, 0, none⟩) 1 1)) w') : o.wp P a w K Q := by
  refine Oper.wp_mono (fun a' w' h => ?_) hrun
  obtain ⟨rfl, rfl⟩ := h
  exact hk _ _ rfl (cell_heap (heap_alloc_new w _) 0) (grown_alloc _ _ _)
theorem yields_sliceS {P : Program} {ops : Array Oper} {S : World → Prop} {oi : Oper} {a : Act} {t : TypeId} {u v vl vh : Value} (x xl xh : Operand) (ho : oi.op = .slice t x (some xl) (some xh) none) (hw : Region.wanted oi (yielded ops a.tmps) = true) (hx : a.eval x = u) (hl : a.eval xl = vl) (hh : a.eval xh = vh)
    (h : ∀ wx, (Instr.sliceAt t u (some vl) (some vh) none).run P wx = .ok v wx) : YieldsIf P ops S oi v a := by
  refine .inl ⟨hw, fun wx _ => ?_⟩
  unfold execOp
  simp only [ho, hx, hl, hh, Option.map_some, Option.map_none, Sem.run_bind, Sem.run_pure, Result.andThen_ok, h wx]
theorem below_row {B : Nat} {w w' : World} {r : Option Nat} (hg : w.grownBy w' r) (hB : B ≤ w.heap.size) (hr : ∀ g, r = some g → B ≤ g) : Below B w w' :=
  ⟨hg.os, hg.tape, hg.output, hg.size, fun i hi => hg.block i (Nat.lt_of_lt_of_le hi hB) (fun e => by have := hr i e.symm; omega)⟩

/-! A text, parted at its first 64; the parts ahead of it. -/
theorem ext_data (s : ByteArray) (l : List UInt8) (hl : s.data.toList = l) (a b : Nat) : (s.extract a b).data.toList = (l.take b).drop a := by
  subst hl
  simp [ByteArray.data_extract, Array.toList_extract, List.extract, List.drop_take]
theorem parts_step {a : List UInt8} {f i : Nat} {done : List (List UInt8)} (hf : f ≤ i) (hi : i < a.length) (hp : pieces1 47 a = done ++ pieces1 47 (a.drop f)) (hn : (47 : UInt8) ∉ (a.drop f).take (i - f)) (hx : a[i] = 47) :
    pieces1 47 a = (done ++ [(a.take i).drop f]) ++ pieces1 47 (a.drop (i + 1)) := by
  have e1 : a.drop f = (a.drop f).take (i - f) ++ (47 :: a.drop (i + 1)) := by
    have h1 : (a.drop f).drop (i - f) = 47 :: a.drop (i + 1) := by
      rw [List.drop_drop, show f + (i - f) = i by omega, List.drop_eq_getElem_cons hi, hx]
    rw [← h1, List.take_append_drop]
  have e2 : (a.take i).drop f = (a.drop f).take (i - f) := by rw [List.drop_take]
  rw [hp, e1, pieces1_at 47 _ _ hn, e2]
  simp
theorem parts_keep {a : List UInt8} {f i : Nat} (hf : f ≤ i) (hi : i < a.length) (hn : (47 : UInt8) ∉ (a.drop f).take (i - f)) (hx : a[i] ≠ 47) : (47 : UInt8) ∉ (a.drop f).take (i + 1 - f) := by
  rw [show i + 1 - f = (i - f) + 1 by omega, List.take_succ_eq_append_getElem (by rw [List.length_drop]; omega)]
  intro e
  rcases List.mem_append.1 e with e | e
  · exact hn e
  · rw [List.mem_singleton, List.getElem_drop] at e
    apply hx
    rw [e]
    congr 1
    omega
theorem parts_last {a : List UInt8} {f : Nat} {done : List (List UInt8)} (_hf : f ≤ a.length) (hp : pieces1 47 a = done ++ pieces1 47 (a.drop f)) (hn : (47 : UInt8) ∉ (a.drop f).take (a.length - f)) :
    pieces1 47 a = done ++ [(a.take a.length).drop f] := by
  rw [List.take_of_length_le (by rw [List.length_drop]; exact Nat.le_refl _)] at hn
  rw [hp, pieces1_none 47 _ hn, List.take_length]
end Go.Proofs.YtfpcabfpnekejaaDoor
