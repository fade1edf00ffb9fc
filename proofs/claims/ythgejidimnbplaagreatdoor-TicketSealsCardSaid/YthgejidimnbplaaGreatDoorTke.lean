/- A struct held against itself. Plain lemmas. -/
import Derived.Test.YthgejidimnbplaaGreatDoorTkm
namespace Go.Proofs.YthgejidimnbplaaGreatDoor
open Go.RowKit

theorem run_partB {P : Program} {e : TypeId} (he : (P.info? e).map (·.size) = some 1) (hu8 : P.underlying e = some (.int .u8)) {l : List UInt8} {i : Nat} {u : UInt8} (hu : l[i]? = some u) (w : World) :
    (part e (bcells l).toArray i).run P w = .ok (.int .u8 (u.toNat : Int)) w := by
  have hag : ∀ w, (isAgg e).run P w = .ok false w := by
    intro w
    unfold isAgg
    rw [Sem.run_bind, run_underlying hu8 w]
    rfl
  have hc : (bcells l)[i]? = some (.int .u8 (u.toNat : Int)) := by rw [bcells_at, hu]; rfl
  cases hq : P.info? e with
  | none => simp [hq] at he
  | some j =>
    have hj : j.size = 1 := by simpa [hq] using he
    simp [part, go_sem, sizeOf, typeInfo, hq, hj, hag, hc]

theorem run_forB {P : Program} {e : TypeId} (he : (P.info? e).map (·.size) = some 1) (hu8 : P.underlying e = some (.int .u8)) (a b : List UInt8) (d : Nat)
    (hd : ∀ (x y : Int) w, (Op.equalIn d e (.int .u8 x) (.int .u8 y)).run P w = .ok (x == y) w) (w : World) :
    ∀ (m i : Nat), i + m = a.length → i + m = b.length →
      (forIn (m := Sem) (List.range' i m 1) ((none : Option Bool), ()) fun i __s => do
        let x ← part e (bcells a).toArray (i * 1)
        let y ← part e (bcells b).toArray (i * 1)
        let q ← Op.equalIn d e x y
        if (!q) = true then pure (ForInStep.done (some false, ())) else pure (ForInStep.yield (none, ()))).run P w = .ok (if a.drop i = b.drop i then (none, ()) else (some false, ())) w
  | 0, i, ha, hb => by
    rw [List.drop_eq_nil_of_le (by omega), List.drop_eq_nil_of_le (by omega), if_pos rfl]
    simp [List.range'_zero]
  | m + 1, i, ha, hb => by
    have ih := run_forB he hu8 a b d hd w m (i + 1) (by omega) (by omega)
    have hx := run_partB (P := P) he hu8 (List.getElem?_eq_getElem (l := a) (i := i) (by omega)) w
    have hy := run_partB (P := P) he hu8 (List.getElem?_eq_getElem (l := b) (i := i) (by omega)) w
    rw [List.range'_succ, List.forIn_cons]
    simp only [Sem.run_bind, Nat.mul_one, hx, hy, hd, Result.andThen_ok]
    simp only [Nat.mul_one] at ih
    rw [List.drop_eq_getElem_cons (l := a) (i := i) (by omega), List.drop_eq_getElem_cons (l := b) (i := i) (by omega)]
    by_cases h : a[i]'(by omega) = b[i]'(by omega)
    · rw [h]
      simp only [beq_self_eq_true, Bool.not_true, Bool.false_eq_true, if_false, Sem.run_pure, Result.andThen_ok, List.cons.injEq, true_and]
      exact ih
    · have hne : (((a[i]'(by omega)).toNat : Int) == ((b[i]'(by omega)).toNat : Int)) = false := by
        rw [beq_eq_false_iff_ne]
        intro he
        exact h (UInt8.toNat_inj.1 (by omega))
      simp only [hne, Bool.not_false, if_true, Sem.run_pure, Result.andThen_ok]
      rw [if_neg (fun he => h (List.cons.inj he).1)]
theorem run_eqB' {P : Program} {t e : TypeId} {n : Nat} (hT : ArrT P t e n) (he : (P.info? e).map (·.size) = some 1) (hu8 : P.underlying e = some (.int .u8)) {a b : List UInt8} (ha : a.length = n) (hb : b.length = n) (d : Nat)
    (hd : ∀ (x y : Int) w, (Op.equalIn d e (.int .u8 x) (.int .u8 y)).run P w = .ok (x == y) w) (w : World) :
    (Op.equalIn (d + 1) t (.agg (bcells a).toArray) (.agg (bcells b).toArray)).run P w = .ok (a == b) w := by
  have hf := run_forB he hu8 a b d hd w n 0 (by omega) (by omega)
  have hsz : (sizeOf e).run P w = .ok 1 w := by
    cases hq : P.info? e with
    | none => simp [hq] at he
    | some j =>
      have hj : j.size = 1 := by simpa [hq] using he
      simp [sizeOf, typeInfo, hq, hj]
  simp only [Op.equalIn, Sem.run_bind, run_underlying hT.ht, Result.andThen_ok, hsz]
  rw [Std.Legacy.Range.forIn_eq_forIn_range']
  have hr : List.range' [:n].start [:n].size [:n].step = List.range' 0 n 1 := by simp [Std.Legacy.Range.size]
  rw [hr, hf]
  simp only [Result.andThen_ok, List.drop_zero]
  by_cases h : a = b
  · rw [if_pos h, h]
    simp
  · rw [if_neg h]
    simp [h]
theorem run_eqB {P : Program} {t e : TypeId} {n : Nat} (hT : ArrT P t e n) (he : (P.info? e).map (·.size) = some 1) (hu8 : P.underlying e = some (.int .u8)) {a b : List UInt8} (ha : a.length = n) (hb : b.length = n) (d : Nat) (w : World) :
    (Op.equalIn (d + 2) t (.agg (bcells a).toArray) (.agg (bcells b).toArray)).run P w = .ok (a == b) w :=
  run_eqB' hT he hu8 ha hb (d + 1) (fun x y w => run_equalIn_int w d e .u8 .u8 x y hu8) w

theorem run_fieldsR {P : Program} (d : Nat) (xs : Array Value) (w : World) : ∀ (l : List Field), (∀ f ∈ l, ∃ v, (∀ w, (part f.type xs f.offset).run P w = .ok v w) ∧ (∀ w, (Op.equalIn d f.type v v).run P w = .ok true w)) →
    (forIn (m := Sem) l ((none : Option Bool), ()) fun f __s =>
      if f.name ≠ "_" then do
        let x ← part f.type xs f.offset
        let y ← part f.type xs f.offset
        let q ← Op.equalIn d f.type x y
        if (!q) = true then pure (ForInStep.done (some false, ())) else pure (ForInStep.yield (none, ()))
      else pure (ForInStep.yield (none, ()))).run P w = .ok (none, ()) w
  | [], _ => by simp
  | f :: l, h => by
    obtain ⟨v, h1, h2⟩ := h f (by simp)
    have ih := run_fieldsR d xs w l (fun g hg => h g (by simp [hg]))
    rw [List.forIn_cons]
    by_cases hn : f.name ≠ "_"
    · simp only [if_pos hn, Sem.run_bind, h1, h2, Result.andThen_ok, Bool.not_true, Bool.false_eq_true, if_false, Sem.run_pure]
      exact ih
    · simp only [if_neg hn, Sem.run_bind, Result.andThen_ok, Sem.run_pure]
      exact ih
theorem run_structR {P : Program} {t : TypeId} {fields : Array Field} (ht : P.underlying t = some (.struct fields)) (hs : P.stoodInHeld t = false) (d : Nat) (xs : Array Value)
    (h : ∀ f ∈ fields.toList, ∃ v, (∀ w, (part f.type xs f.offset).run P w = .ok v w) ∧ (∀ w, (Op.equalIn d f.type v v).run P w = .ok true w)) (w : World) :
    (Op.equalIn (d + 1) t (.agg xs) (.agg xs)).run P w = .ok true w := by
  have hp : ∀ w, program.run P w = .ok P w := fun _ => rfl
  simp only [Op.equalIn, Sem.run_bind, run_underlying ht, Result.andThen_ok, hp, hs]
  rw [← Array.forIn_toList, if_neg (by simp)]
  simp only [Sem.run_bind]
  rw [run_fieldsR d xs w fields.toList h]
  rfl
theorem run_partX {P : Program} {e : TypeId} {xs : List Value} {i : Nat} {v : Value} (hag : ∀ w, (isAgg e).run P w = .ok false w) (hv : xs[i]? = some v) (w : World) : (part e xs.toArray i).run P w = .ok v w := by
  simp [part, go_sem, hag, hv]
theorem run_partA {P : Program} {e : TypeId} {n : Nat} {xs p : List Value} {i : Nat} (hT : AggT P e n) (hp : (xs.drop i).take n = p) (w : World) : (part e xs.toArray i).run P w = .ok (.agg p.toArray) w := by
  have hsz : (sizeOf e).run P w = .ok n w := by
    have := hT.hi
    cases hq : P.info? e with
    | none => simp [hq] at this
    | some j =>
      have hj : j.size = n := by simpa [hq] using this
      simp [sizeOf, typeInfo, hq, hj]
  simp [part, go_sem, hT.ha, hsz, hp]
theorem arrK : ArrT Tryz.prog 23 5 16 := ⟨Tryz.underlying23, by kernel_rfl⟩
theorem run_equalStr {P : Program} {t : TypeId} (ht : P.underlying t = some .string) (d : Nat) (s : ByteArray) (w : World) : (Op.equalIn (d + 1) t (.string s) (.string s)).run P w = .ok true w := by
  have hs : (s == s) = true := by
    first
      | exact beq_self_eq_true s
      | (show (s.data == s.data) = true; simp)
  simp [Op.equalIn, run_underlying ht, hs]
theorem run_equalInt {P : Program} {t : TypeId} {k : IntKind} (ht : P.underlying t = some (.int k)) (d : Nat) (n : Int) (w : World) : (Op.equalIn (d + 1) t (.int k n) (.int k n)).run P w = .ok true w := by
  simp [Op.equalIn, run_underlying ht]
set_option maxRecDepth 10000 in
theorem run_eq_t (c s : ByteArray) (k : List UInt8) (st en fl : Int) (hk : k.length = 16) (w : World) : (Op.equalIn 10000 25 (.agg (tcells c s k st en fl).toArray) (.agg (tcells c s k st en fl).toArray)).run Tryz.prog w = .ok true w := by
  refine run_structR Tryz.underlying25 (by kernel_rfl) 9999 _ (fun f hf => ?_) w
  simp only [List.mem_cons, List.not_mem_nil, or_false] at hf
  rcases hf with rfl | rfl | rfl | rfl | rfl | rfl
  · exact ⟨.string c, run_partX (by intro w; kernel_rfl) (tcells_c c s k st en fl hk), fun w => run_equalStr Tryz.underlying9 9998 _ w⟩
  · exact ⟨.string s, run_partX (by intro w; kernel_rfl) (tcells_s c s k st en fl hk), fun w => run_equalStr Tryz.underlying9 9998 _ w⟩
  · exact ⟨.agg (bcells k).toArray, run_partA (n := 16) aggK (by have := tcells_key c s k st en fl; rwa [hk] at this), fun w => by have := run_eqB arrK sz8 Tryz.underlying5 hk hk 9997 w; rwa [beq_self_eq_true] at this⟩
  · exact ⟨.int .i64 st, run_partX (by intro w; kernel_rfl) (tcells_st c s k st en fl hk), fun w => run_equalInt Tryz.underlying2 9998 _ w⟩
  · exact ⟨.int .i64 en, run_partX (by intro w; kernel_rfl) (tcells_en c s k st en fl hk), fun w => run_equalInt Tryz.underlying2 9998 _ w⟩
  · exact ⟨.int .i64 fl, run_partX (by intro w; kernel_rfl) (tcells_fl c s k st en fl hk), fun w => run_equalInt Tryz.underlying3 9998 _ w⟩
end Go.Proofs.YthgejidimnbplaaGreatDoor
