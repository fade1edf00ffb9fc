/- Rows of structs of the call's own; structs held against each other. Plain lemmas, no program. -/
import Derived.Test.YtlkchajkhplapaaGreatDoorSlr
namespace Go.Proofs.YtlkchajkhplapaaGreatDoor
open Go.ChangeShapes Go.WideShapes Go.RowKit

/-- A row of structs of the call's own, each by its cells. -/
def RowX (w : World) (base : Nat) (e : TypeId) (sz : Nat) (v : Value) (Cs : List (List Value)) : Prop := w.ownsRow base e sz v Cs.length Cs.flatten ∧ ∀ c ∈ Cs, c.length = sz

theorem flatten_at {sz : Nat} : ∀ (Cs : List (List Value)) (k : Nat) (c : List Value) (j : Nat), (∀ c ∈ Cs, c.length = sz) → Cs[k]? = some c → j < sz → Cs.flatten[sz * k + j]? = c[j]?
  | [], k, c, j, _, h, _ => by simp at h
  | d :: Cs, 0, c, j, hl, h, hj => by
    simp at h
    subst h
    rw [List.flatten_cons, Nat.mul_zero, Nat.zero_add, List.getElem?_append_left (by rw [hl d (by simp)]; exact hj)]
  | d :: Cs, k + 1, c, j, hl, h, hj => by
    have ih := flatten_at Cs k c j (fun c hc => hl c (by simp [hc])) (by simpa using h) hj
    have hd := hl d (by simp)
    rw [List.flatten_cons, List.getElem?_append_right (by rw [hd, Nat.mul_add]; omega), hd, ← ih]
    congr 1
    rw [Nat.mul_add]
    omega

section
variable {w w' : World} {base sz : Nat} {e : TypeId} {v : Value} {Cs : List (List Value)}
theorem RowX.nil_ (w : World) (base : Nat) (e : TypeId) (sz : Nat) : RowX w base e sz (.slice none 0 0) [] := ⟨World.ownsRow_nil w base e sz, fun _ h => by cases h⟩
theorem RowX.new0 (w : World) (base : Nat) (e : TypeId) (sz : Nat) (hb : base ≤ w.heap.size) : RowX (w.alloc (.cells #[] e)) base e sz (.slice (some ⟨w.heap.size, 0, none⟩) 0 0) [] :=
  ⟨⟨by simp, .inr ⟨w.heap.size, 0, #[], rfl, hb, heap_alloc_new w _, Nat.le_refl _, by simp [maxLen], by simp, by simp⟩⟩, fun _ h => by cases h⟩
theorem RowX.lt (h : RowX w base e sz v Cs) : ∀ g, v.ownBlock = some g → base ≤ g ∧ g < w.heap.size := World.ownsRow.lt h.1
theorem RowX.kept {row : Option Nat} (h : RowX w base e sz v Cs) (hg : w.grownBy w' row) (hne : v.ownBlock = none ∨ v.ownBlock ≠ row) : RowX w' base e sz v Cs := ⟨World.ownsRow.kept h.1 hg (hne.imp id fun h e => h e), h.2⟩
theorem RowX.none (h : RowX w base e sz v Cs) (hg : w.grownBy w' Option.none) : RowX w' base e sz v Cs := h.kept hg (by cases hv : v.ownBlock <;> simp)
theorem RowX.row (h : RowX w base e sz v Cs) {g : Nat} (hg : w.grownBy w' (some g)) (hne : v.ownBlock ≠ some g) : RowX w' base e sz v Cs := h.kept hg (.inr hne)
theorem RowX.base_ {base' : Nat} (h : RowX w base e sz v Cs) (hb : base' ≤ base) : RowX w base' e sz v Cs :=
  ⟨⟨h.1.1, h.1.2.imp id fun ⟨g, cap, cur, hv, hg, r⟩ => ⟨g, cap, cur, hv, Nat.le_trans hb hg, r⟩⟩, h.2⟩
/-- The row isn't in a block of another kind. -/
theorem RowX.ne_cells (h : RowX w base e sz v Cs) {g : Nat} {cs : Array Value} {t : TypeId} {z : Nat × Nat} (hg : w.heap[g]? = some (.cells cs t z)) (hne : e ≠ t) : v.ownBlock ≠ some g := by
  rcases h.1.2 with ⟨rfl, _⟩ | ⟨g', _, _, rfl, _, hg', _⟩
  · simp [Value.ownBlock]
  · intro he
    have : g' = g := by simpa [Value.ownBlock] using he
    subst this
    rw [hg] at hg'
    injection hg' with hg'
    injection hg' with _ ht
    exact hne ht.symm
theorem RowX.ne_map (h : RowX w base e sz v Cs) {g : Nat} {es : Array MapEntry} {cl : Nat} (hg : w.heap[g]? = some (.map es cl)) : v.ownBlock ≠ some g := by
  rcases h.1.2 with ⟨rfl, _⟩ | ⟨g', _, _, rfl, _, hg', _⟩
  · simp [Value.ownBlock]
  · intro he
    have : g' = g := by simpa [Value.ownBlock] using he
    subst this
    rw [hg] at hg'
    cases hg'
theorem RowX.shape (h : RowX w base e sz v Cs) : ∃ A cap, v = .slice A Cs.length cap ∧ SR w w.heap.size A sz Cs cap ∧ ∀ g, v.ownBlock = some g → base ≤ g ∧ g < w.heap.size := by
  have hlt := h.lt
  rcases h.1.2 with ⟨rfl, hl⟩ | ⟨g, cap, cur, rfl, hb, hg, hc, hm, _⟩
  · have : Cs = [] := List.eq_nil_of_length_eq_zero hl
    subst this
    exact ⟨Option.none, 0, rfl, ⟨Nat.le_refl _, Nat.zero_le _, .inl ⟨rfl, rfl⟩⟩, hlt⟩
  · refine ⟨some ⟨g, 0, Option.none⟩, cap, rfl, ⟨hc, hm, .inr ⟨_, rfl, fun _ => ⟨rfl, (Array.getElem?_eq_some_iff.1 hg).1⟩, fun k c hk j u hj => ?_⟩⟩, hlt⟩
    have hcl := h.2 c (List.mem_of_getElem? hk)
    have hj' := (List.getElem?_eq_some_iff.1 hj).1
    show w.cell? ⟨g, 0 + sz * k + j, Option.none⟩ = some u
    rw [Nat.zero_add]
    have h9 := h.1.cells (g := g) rfl (sz * k + j) u (by rw [flatten_at Cs k c j h.2 hk (by omega)]; exact hj)
    rwa [Addr.add_lit, Nat.zero_add] at h9
end

/-- What the program says of a type of slices of structs. -/
structure RowT (P : Program) (t e : TypeId) (sz : Nat) : Prop where
  ht : P.underlying t = some (.slice e)
  hi : ∃ i z, P.info? e = some i ∧ i.zero = some z ∧ i.size = sz ∧ i.bytes ≤ 1000 ∧ z.cells.size = sz
  pos : 0 < sz

section
variable {P : Program} {w : World} {ops : Array Oper} {rest : List Oper} {o : Oper} {a : Act} {Q : Exit → Act → World → Prop}
/-- 'append(s, x)' of one struct. -/
theorem run_appX {t e : TypeId} {sz : Nat} (hT : RowT P t e sz) (ty : TypeId) {base : Nat} {v : Value} {Cs : List (List Value)} {p : List Value} {b off c : Nat} (hown : RowX w base e sz v Cs)
    (hc : ∀ j u, p[j]? = some u → w.cell? ⟨b, off + j, none⟩ = some u) (hp : p.length = sz) (h1 : ∀ u ∈ p, u.oneCell' = true) (hlen : Cs.length ≤ 1000000000) (hbase : base ≤ w.heap.size) :
    ∃ v' w', (Builtin.append_ #[t, t] ty #[v, .slice (some ⟨b, off, none⟩) 1 c]).run P w = .ok v' w' ∧ RowX w' base e sz v' (Cs ++ [p]) ∧ w.grownBy w' v.ownBlock ∧ (v'.ownBlock = v.ownBlock ∨ v'.ownBlock = some w.heap.size) := by
  obtain ⟨i, z, hi, hz, hs, hb, hzs⟩ := hT.hi
  obtain ⟨v', w', hrun, ho, hg, _, hat⟩ := run_append_own_at (P := P) (w := w) base t ty e i z sz i.bytes hT.ht hi hz hs rfl hzs hT.pos v Cs.length Cs.flatten hown.1
    ⟨b, off, none⟩ 1 c p (by rw [hp, Nat.one_mul]) (fun j u hu => by rw [Addr.add_lit]; exact hc j u hu) h1 (by unfold maxLen; omega) (by
      have := Nat.mul_le_mul (show Cs.length + 1 ≤ 1000000001 by omega) hb
      omega) hbase
  refine ⟨v', w', hrun, ⟨?_, fun x hx => ?_⟩, hg, hat⟩
  · rw [List.length_append, List.flatten_append]
    simpa using ho
  · rcases List.mem_append.1 hx with hx | hx
    · exact hown.2 x hx
    · rw [List.mem_singleton.1 hx]; exact hp
theorem wpList_appX {t e : TypeId} {sz : Nat} (hT : RowT P t e sz) (hgd : o.guard = none) (s x : Operand)
    (ho : o.op = .call { callee := .builtin .append, args := #[s, x], argTypes := #[t, t] })
    {base : Nat} {v : Value} {Cs : List (List Value)} {p : List Value} {b off c : Nat} (hown : RowX w base e sz v Cs)
    (hc : ∀ j u, p[j]? = some u → w.cell? ⟨b, off + j, none⟩ = some u) (hp : p.length = sz) (h1 : ∀ u ∈ p, u.oneCell' = true) (hs : a.eval s = v) (hx : a.eval x = .slice (some ⟨b, off, none⟩) 1 c) (hlen : Cs.length ≤ 1000000000) (hbase : base ≤ w.heap.size)
    (h : ∀ v' w', RowX w' base e sz v' (Cs ++ [p]) → w.grownBy w' v.ownBlock → (v'.ownBlock = v.ownBlock ∨ v'.ownBlock = some w.heap.size) → wpList P ops Q rest (a.put o.dst v') w') : wpList P ops Q (o :: rest) a w := by
  refine wpList_plain hgd fun K hK => ?_
  obtain ⟨v', w', hrun, h2, h3, h5⟩ := run_appX (c := c) hT o.type hown hc hp h1 hlen hbase
  unfold Oper.wp execOp
  simp only [ho, resolve, invoke, builtin, Sem.run_bind, Sem.run_pure, Result.andThen_ok, List.map_toArray, List.map_cons, List.map_nil, hs, hx]
  rw [hrun]
  exact hK _ _ (h v' w' h2 h3 h5)
theorem wp_appX {K : Act → World → Prop} {t e : TypeId} {sz : Nat} (hT : RowT P t e sz) (s x : Operand)
    (ho : o.op = .call { callee := .builtin .append, args := #[s, x], argTypes := #[t, t] })
    {base : Nat} {v : Value} {Cs : List (List Value)} {p : List Value} {b off c : Nat} (hown : RowX w base e sz v Cs)
    (hc : ∀ j u, p[j]? = some u → w.cell? ⟨b, off + j, none⟩ = some u) (hp : p.length = sz) (h1 : ∀ u ∈ p, u.oneCell' = true) (hs : a.eval s = v) (hx : a.eval x = .slice (some ⟨b, off, none⟩) 1 c) (hlen : Cs.length ≤ 1000000000) (hbase : base ≤ w.heap.size)
    (h : ∀ v' w', RowX w' base e sz v' (Cs ++ [p]) → w.grownBy w' v.ownBlock → (v'.ownBlock = v.ownBlock ∨ v'.ownBlock = some w.heap.size) → K (a.put o.dst v') w') : o.wp P a w K Q := by
  obtain ⟨v', w', hrun, h2, h3, h5⟩ := run_appX (c := c) hT o.type hown hc hp h1 hlen hbase
  unfold Oper.wp execOp
  simp only [ho, resolve, invoke, builtin, Sem.run_bind, Sem.run_pure, Result.andThen_ok, List.map_toArray, List.map_cons, List.map_nil, hs, hx]
  rw [hrun]
  exact h v' w' h2 h3 h5
end

/-! Structs held against each other. -/
theorem run_partBe {P : Program} {e : TypeId} (he : (P.info? e).map (·.size) = some 1) (hu8 : P.underlying e = some (.int .u8)) {l : List UInt8} {i : Nat} {u : UInt8} (hu : l[i]? = some u) (w : World) :
    (part e (bcells l).toArray i).run P w = .ok (.int .u8 (u.toNat : Int)) w := by
  have hag : ∀ w, (isAgg e).run P w = .ok false w := by
    intro w
    unfold isAgg
    rw [Sem.run_bind, run_underlying hu8 w]
    rfl
  have hc : (bcells l)[i]? = some (.int .u8 (u.toNat : Int)) := by rw [bcells_at, hu]; rfl
  cases hq : P.info? e with
  | none => simp [hq] at he
  | some j =>
    have hj : j.size = 1 := by simpa [hq] using he
    simp [part, go_sem, sizeOf, typeInfo, hq, hj, hag, hc]
theorem run_forBe {P : Program} {e : TypeId} (he : (P.info? e).map (·.size) = some 1) (hu8 : P.underlying e = some (.int .u8)) (a b : List UInt8) (d : Nat)
    (hd : ∀ (x y : Int) w, (Op.equalIn d e (.int .u8 x) (.int .u8 y)).run P w = .ok (x == y) w) (w : World) :
    ∀ (m i : Nat), i + m = a.length → i + m = b.length →
      (forIn (m := Sem) (List.range' i m 1) ((none : Option Bool), ()) fun i __s => do
        let x ← part e (bcells a).toArray (i * 1)
        let y ← part e (bcells b).toArray (i * 1)
        let q ← Op.equalIn d e x y
        if (!q) = true then pure (ForInStep.done (some false, ())) else pure (ForInStep.yield (none, ()))).run P w = .ok (if a.drop i = b.drop i then (none, ()) else (some false, ())) w
  | 0, i, ha, hb => by
    rw [List.drop_eq_nil_of_le (by omega), List.drop_eq_nil_of_le (by omega), if_pos rfl]
    simp [List.range'_zero]
  | m + 1, i, ha, hb => by
    have ih := run_forBe he hu8 a b d hd w m (i + 1) (by omega) (by omega)
    have hx := run_partBe (P := P) he hu8 (List.getElem?_eq_getElem (l := a) (i := i) (by omega)) w
    have hy := run_partBe (P := P) he hu8 (List.getElem?_eq_getElem (l := b) (i := i) (by omega)) w
    rw [List.range'_succ, List.forIn_cons]
    simp only [Sem.run_bind, Nat.mul_one, hx, hy, hd, Result.andThen_ok]
    simp only [Nat.mul_one] at ih
    rw [List.drop_eq_getElem_cons (l := a) (i := i) (by omega), List.drop_eq_getElem_cons (l := b) (i := i) (by omega)]
    by_cases h : a[i]'(by omega) = b[i]'(by omega)
    · rw [h]
      simp only [beq_self_eq_true, Bool.not_true, Bool.false_eq_true, if_false, Sem.run_pure, Result.andThen_ok, List.cons.injEq, true_and]
      exact ih
    · have hne : (((a[i]'(by omega)).toNat : Int) == ((b[i]'(by omega)).toNat : Int)) = false := by
        rw [beq_eq_false_iff_ne]
        intro he
        exact h (UInt8.toNat_inj.1 (by omega))
      simp only [hne, Bool.not_false, if_true, Sem.run_pure, Result.andThen_ok]
      rw [if_neg (fun he => h (List.cons.inj he).1)]
theorem run_arrB' {P : Program} {t e : TypeId} {n : Nat} (ht : P.underlying t = some (.array n e)) (he : (P.info? e).map (·.size) = some 1) (hu8 : P.underlying e = some (.int .u8)) {a b : List UInt8} (ha : a.length = n) (hb : b.length = n) (d : Nat)
    (hd : ∀ (x y : Int) w, (Op.equalIn d e (.int .u8 x) (.int .u8 y)).run P w = .ok (x == y) w) (w : World) :
    (Op.equalIn (d + 1) t (.agg (bcells a).toArray) (.agg (bcells b).toArray)).run P w = .ok (a == b) w := by
  have hf := run_forBe he hu8 a b d hd w n 0 (by omega) (by omega)
  have hsz : (sizeOf e).run P w = .ok 1 w := by
    cases hq : P.info? e with
    | none => simp [hq] at he
    | some j =>
      have hj : j.size = 1 := by simpa [hq] using he
      simp [sizeOf, typeInfo, hq, hj]
  simp only [Op.equalIn, Sem.run_bind, run_underlying ht, Result.andThen_ok, hsz]
  rw [Std.Legacy.Range.forIn_eq_forIn_range']
  have hr : List.range' [:n].start [:n].size [:n].step = List.range' 0 n 1 := by simp [Std.Legacy.Range.size]
  rw [hr, hf]
  simp only [Result.andThen_ok, List.drop_zero]
  by_cases h : a = b
  · rw [if_pos h, h]
    simp
  · rw [if_neg h]
    simp [h]
theorem run_arrB {P : Program} {t e : TypeId} {n : Nat} (ht : P.underlying t = some (.array n e)) (he : (P.info? e).map (·.size) = some 1) (hu8 : P.underlying e = some (.int .u8)) {a b : List UInt8} (ha : a.length = n) (hb : b.length = n) (d : Nat) (w : World) :
    (Op.equalIn (d + 2) t (.agg (bcells a).toArray) (.agg (bcells b).toArray)).run P w = .ok (a == b) w :=
  run_arrB' ht he hu8 ha hb (d + 1) (fun x y w => run_equalIn_int w d e .u8 .u8 x y hu8) w
theorem run_fieldsE {P : Program} (d : Nat) (xs ys : Array Value) (w : World) (q : Field → Bool) : ∀ (l : List Field), (∀ f ∈ l, f.name ≠ "_" ∧ ∃ x y, (∀ w, (part f.type xs f.offset).run P w = .ok x w) ∧ (∀ w, (part f.type ys f.offset).run P w = .ok y w) ∧ (∀ w, (Op.equalIn d f.type x y).run P w = .ok (q f) w)) →
    (forIn (m := Sem) l ((none : Option Bool), ()) fun f __s =>
      if f.name ≠ "_" then do
        let x ← part f.type xs f.offset
        let y ← part f.type ys f.offset
        let q ← Op.equalIn d f.type x y
        if (!q) = true then pure (ForInStep.done (some false, ())) else pure (ForInStep.yield (none, ()))
      else pure (ForInStep.yield (none, ()))).run P w = .ok (if l.all q = true then (none, ()) else (some false, ())) w
  | [], _ => by simp
  | f :: l, h => by
    obtain ⟨hn, x, y, h1, h2, h3⟩ := h f (by simp)
    have ih := run_fieldsE d xs ys w q l (fun g hg => h g (by simp [hg]))
    rw [List.forIn_cons]
    simp only [if_pos hn, Sem.run_bind, h1, h2, h3, Result.andThen_ok]
    cases hq : q f with
    | true =>
      simp only [Bool.not_true, Bool.false_eq_true, if_false, Sem.run_pure, Result.andThen_ok, List.all_cons, hq, Bool.true_and]
      exact ih
    | false =>
      simp [hq]
theorem run_structE {P : Program} {t : TypeId} {fields : Array Field} (ht : P.underlying t = some (.struct fields)) (hs : P.stoodInHeld t = false) (d : Nat) (xs ys : Array Value) (q : Field → Bool)
    (h : ∀ f ∈ fields.toList, f.name ≠ "_" ∧ ∃ x y, (∀ w, (part f.type xs f.offset).run P w = .ok x w) ∧ (∀ w, (part f.type ys f.offset).run P w = .ok y w) ∧ (∀ w, (Op.equalIn d f.type x y).run P w = .ok (q f) w)) (w : World) :
    (Op.equalIn (d + 1) t (.agg xs) (.agg ys)).run P w = .ok (fields.toList.all q) w := by
  have hp : ∀ w, program.run P w = .ok P w := fun _ => rfl
  simp only [Op.equalIn, Sem.run_bind, run_underlying ht, Result.andThen_ok, hp, hs]
  rw [← Array.forIn_toList, if_neg (by simp)]
  simp only [Sem.run_bind]
  rw [run_fieldsE d xs ys w q fields.toList h]
  cases hq : fields.toList.all q <;> simp
theorem run_partXe {P : Program} {e : TypeId} {xs : List Value} {i : Nat} {v : Value} (hag : ∀ w, (isAgg e).run P w = .ok false w) (hv : xs[i]? = some v) (w : World) : (part e xs.toArray i).run P w = .ok v w := by
  simp [part, go_sem, hag, hv]
theorem run_partAe {P : Program} {e : TypeId} {n : Nat} {xs p : List Value} {i : Nat} (hT : AggT P e n) (hp : (xs.drop i).take n = p) (w : World) : (part e xs.toArray i).run P w = .ok (.agg p.toArray) w := by
  have hsz : (sizeOf e).run P w = .ok n w := by
    have := hT.hi
    cases hq : P.info? e with
    | none => simp [hq] at this
    | some j =>
      have hj : j.size = n := by simpa [hq] using this
      simp [sizeOf, typeInfo, hq, hj]
  simp [part, go_sem, hT.ha, hsz, hp]
theorem run_eqS {P : Program} {t : TypeId} (ht : P.underlying t = some .string) (d : Nat) (s u : ByteArray) (w : World) : (Op.equalIn (d + 1) t (.string s) (.string u)).run P w = .ok (s == u) w := by
  simp [Op.equalIn, run_underlying ht]
theorem run_eqI {P : Program} {t : TypeId} {k : IntKind} (ht : P.underlying t = some (.int k)) (d : Nat) (n m : Int) (w : World) : (Op.equalIn (d + 1) t (.int k n) (.int k m)).run P w = .ok (n == m) w := by
  simp [Op.equalIn, run_underlying ht]
theorem run_eqBo {P : Program} {t : TypeId} (ht : P.underlying t = some .bool) (d : Nat) (n m : Bool) (w : World) : (Op.equalIn (d + 1) t (.bool n) (.bool m)).run P w = .ok (n == m) w := by
  simp [Op.equalIn, run_underlying ht]
end Go.Proofs.YtlkchajkhplapaaGreatDoor
