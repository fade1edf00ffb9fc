/- Arrays of bytes compared. Plain lemmas. -/
import Derived.Test.YtndnmjolcilamaaDoorSpk
namespace Go.Proofs.YtndnmjolcilamaaDoor
open Go.RowKit
theorem run_partB {P : Program} {e : TypeId} (he : (P.info? e).map (·.size) = some 1) (hu8 : P.underlying e = some (.int .u8)) {l : List UInt8} {i : Nat} {u : UInt8} (hu : l[i]? = some u) (w : World) :
    (part e (bcells l).toArray i).run P w = .ok (.int .u8 (u.toNat : Int)) w := by
  have hag : ∀ w, (isAgg e).run P w = .ok false w := by
    intro w
    unfold isAgg
    rw [Sem.run_bind, run_underlying hu8 w]
    rfl
  have hc : (bcells l)[i]? = some (.int .u8 (u.toNat : Int)) := by rw [bcells_at, hu]; rfl
  cases hq : P.info? e with
  | none => simp [hq] at he
  | some j =>
    have hj : j.size = 1 := by simpa [hq] using he
    simp [part, go_sem, sizeOf, typeInfo, hq, hj, hag, hc]

theorem run_forB {P : Program} {e : TypeId} (he : (P.info? e).map (·.size) = some 1) (hu8 : P.underlying e = some (.int .u8)) (a b : List UInt8) (d : Nat)
    (hd : ∀ (x y : Int) w, (Op.equalIn d e (.int .u8 x) (.int .u8 y)).run P w = .ok (x == y) w) (w : World) :
    ∀ (m i : Nat), i + m = a.length → i + m = b.length →
      (forIn (m := Sem) (List.range' i m 1) ((none : Option Bool), ()) fun i __s => do
        let x ← part e (bcells a).toArray (i * 1)
        let y ← part e (bcells b).toArray (i * 1)
        let q ← Op.equalIn d e x y
        if (!q) = true then pure (ForInStep.done (some false, ())) else pure (ForInStep.yield (none, ()))).run P w = .ok (if a.drop i = b.drop i then (none, ()) else (some false, ())) w
  | 0, i, ha, hb => by
    rw [List.drop_eq_nil_of_le (by omega), List.drop_eq_nil_of_le (by omega), if_pos rfl]
    simp [List.range'_zero]
  | m + 1, i, ha, hb => by
    have ih := run_forB he hu8 a b d hd w m (i + 1) (by omega) (by omega)
    have hx := run_partB (P := P) he hu8 (List.getElem?_eq_getElem (l := a) (i := i) (by omega)) w
    have hy := run_partB (P := P) he hu8 (List.getElem?_eq_getElem (l := b) (i := i) (by omega)) w
    rw [List.range'_succ, List.forIn_cons]
    simp only [Sem.run_bind, Nat.mul_one, hx, hy, hd, Result.andThen_ok]
    simp only [Nat.mul_one] at ih
    rw [List.drop_eq_getElem_cons (l := a) (i := i) (by omega), List.drop_eq_getElem_cons (l := b) (i := i) (by omega)]
    by_cases h : a[i]'(by omega) = b[i]'(by omega)
    · rw [h]
      simp only [beq_self_eq_true, Bool.not_true, Bool.false_eq_true, if_false, Sem.run_pure, Result.andThen_ok, List.cons.injEq, true_and]
      exact ih
    · have hne : (((a[i]'(by omega)).toNat : Int) == ((b[i]'(by omega)).toNat : Int)) = false := by
        rw [beq_eq_false_iff_ne]
        intro he
        exact h (UInt8.toNat_inj.1 (by omega))
      simp only [hne, Bool.not_false, if_true, Sem.run_pure, Result.andThen_ok]
      rw [if_neg (fun he => h (List.cons.inj he).1)]
theorem run_eqB' {P : Program} {t e : TypeId} {n : Nat} (hT : ArrT P t e n) (he : (P.info? e).map (·.size) = some 1) (hu8 : P.underlying e = some (.int .u8)) {a b : List UInt8} (ha : a.length = n) (hb : b.length = n) (d : Nat)
    (hd : ∀ (x y : Int) w, (Op.equalIn d e (.int .u8 x) (.int .u8 y)).run P w = .ok (x == y) w) (w : World) :
    (Op.equalIn (d + 1) t (.agg (bcells a).toArray) (.agg (bcells b).toArray)).run P w = .ok (a == b) w := by
  have hf := run_forB he hu8 a b d hd w n 0 (by omega) (by omega)
  have hsz : (sizeOf e).run P w = .ok 1 w := by
    cases hq : P.info? e with
    | none => simp [hq] at he
    | some j =>
      have hj : j.size = 1 := by simpa [hq] using he
      simp [sizeOf, typeInfo, hq, hj]
  simp only [Op.equalIn, Sem.run_bind, run_underlying hT.ht, Result.andThen_ok, hsz]
  rw [Std.Legacy.Range.forIn_eq_forIn_range']
  have hr : List.range' [:n].start [:n].size [:n].step = List.range' 0 n 1 := by simp [Std.Legacy.Range.size]
  rw [hr, hf]
  simp only [Result.andThen_ok, List.drop_zero]
  by_cases h : a = b
  · rw [if_pos h, h]
    simp
  · rw [if_neg h]
    simp [h]
theorem run_eqB {P : Program} {t e : TypeId} {n : Nat} (hT : ArrT P t e n) (he : (P.info? e).map (·.size) = some 1) (hu8 : P.underlying e = some (.int .u8)) {a b : List UInt8} (ha : a.length = n) (hb : b.length = n) (d : Nat) (w : World) :
    (Op.equalIn (d + 2) t (.agg (bcells a).toArray) (.agg (bcells b).toArray)).run P w = .ok (a == b) w :=
  run_eqB' hT he hu8 ha hb (d + 1) (fun x y w => run_equalIn_int w d e .u8 .u8 x y hu8) w
theorem run_binEqB {P : Program} {t e : TypeId} {n : Nat} (hT : ArrT P t e n) (he : (P.info? e).map (·.size) = some 1) (hu8 : P.underlying e = some (.int .u8)) {a b : List UInt8} (ha : a.length = n) (hb : b.length = n) (w : World) :
    (binOp .eql t (.agg (bcells a).toArray) (.agg (bcells b).toArray)).run P w = .ok (.bool (a == b)) w := by
  rw [run_eql_struct, run_eqB hT he hu8 ha hb 9998 w]
  rfl
section
variable {P : Program} {ops : Array Oper} {S : World → Prop} {oi : Oper} {a : Act} {ty e t : TypeId} {n g : Nat} {l : List UInt8}
theorem yields_eqB {A B : Array Value} {c : Bool} {k : TypeId} (hgt : P.eqGuardType P.depth ty = false) (x y : Operand) (ho : oi.op = .binOp .eql ty x y k) (hw : Region.wanted oi (yielded ops a.tmps) = true)
    (hx : a.eval x = .agg A) (hy : a.eval y = .agg B) (hE : ∀ w, (binOp .eql ty (.agg A) (.agg B)).run P w = .ok (.bool c) w) : YieldsIf P ops S oi (.bool c) a := by
  refine .inl ⟨hw, fun wx hS => ?_⟩
  unfold execOp
  simp only [ho, hx, hy, Sem.run_bind, Sem.run_pure, Result.andThen_ok, hE, run_eqGuard_agg wx .eql ty x y A B hgt]
end
theorem arr32 : ArrT Tryd.prog 61 5 32 := ⟨Tryd.underlying61, by kernel_rfl⟩
theorem arrKey : ArrT Tryd.prog 23 5 16 := ⟨Tryd.underlying23, by kernel_rfl⟩
end Go.Proofs.YtndnmjolcilamaaDoor
