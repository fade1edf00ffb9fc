/- append(s, make([]byte, k)...) onto a row of the call's own; and with a mask. Plain lemmas. -/
import Derived.Test.YtndnmjolcilamaaDoorMs
import Derived.Lib.AppendZerosOnto
namespace Go.Proofs.YtndnmjolcilamaaDoor
open Go.RowKit

theorem zeroCells_u8 (k : Nat) : Builtin.zeroCells (Value.int .u8 0).cells k = (bcells (zeros k)).toArray := by
  apply Array.ext
  · simp [Builtin.zeroCells, Value.cells, bcells, zeros]
  · intro i h1 h2
    simp [Builtin.zeroCells, Value.cells, bcells, zeros, Nat.mod_one]

theorem run_appZ {P : Program} {w : World} {t tn e : TypeId} (hT : ByteT P t e) (htn : P.underlying tn = some (.int .i64)) (ty : TypeId) {base : Nat} {v : Value} {l : List UInt8} (hown : OwnB w base e v l)
    (k : Nat) (hlen : l.length + k ≤ 70368744177664) (hbase : base ≤ w.heap.size) :
    ∃ v' w', (Builtin.append_ #[t, tn] ty #[v, .int .i64 k]).run P w = .ok v' w' ∧ OwnB w' base e v' (l ++ zeros k) ∧ w.grownBy w' v.ownBlock ∧ (v'.ownBlock = v.ownBlock ∨ v'.ownBlock = some w.heap.size) := by
  obtain ⟨i0, hi, hz0, hz1, hz2⟩ := info_parts hT.hi
  have hneg : ¬ ((k : Int) < 0) := by omega
  have hw : IntKind.i64.wrap (k : Int) = k := by rw [IntKind.wrap_i64]; omega
  have h48i : ¬ (281474976710656 < (k : Int) * (i0.bytes : Int)) := by rw [hz2]; omega
  have grown : ∀ (old : Nat), old < l.length + k → old ≤ maxLen → ∀ (row : Option Nat),
      OwnB (w.drew.alloc (.cells ((bcells l).toArray ++ (bcells (zeros k)).toArray ++ (bcells (zeros (grownCap w (l.length + k) old e - (l.length + k)))).toArray) e)) base e (.slice (some ⟨w.heap.size, 0, none⟩) (l.length + k) (grownCap w (l.length + k) old e)) (l ++ zeros k) ∧
      w.grownBy (w.drew.alloc (.cells ((bcells l).toArray ++ (bcells (zeros k)).toArray ++ (bcells (zeros (grownCap w (l.length + k) old e - (l.length + k)))).toArray) e)) row := by
    intro old ho hom row
    have hge := grownCap_ge w (l.length + k) old e
    have hcm : grownCap w (l.length + k) old e ≤ maxLen := grownCap_le_maxLen w (l.length + k) old e (by unfold maxLen; omega)
    have hL : (l ++ zeros k).length = l.length + k := by rw [List.length_append, zeros_length]
    refine ⟨?_, ⟨rfl, rfl, rfl, by simp, fun j hj _ => Below.heap_alloc w.drew _ j hj⟩⟩
    unfold OwnB
    rw [hL]
    refine ⟨by rw [bcells_length, hL, Nat.mul_one], .inr ⟨w.heap.size, _, _, rfl, hbase, heap_alloc_new w.drew _, hge, hcm, ?_, ?_⟩⟩
    · simp only [Array.size_append, List.size_toArray, bcells_length, zeros_length]
      omega
    · simp only [Array.toList_append, ← bcells_append]
      rw [bcells_append, Nat.mul_one]
      exact List.take_left' (by rw [bcells_length, hL])
  rcases hown.2 with ⟨rfl, hl⟩ | ⟨g, cap, cur, rfl, hbg, hg, hnc, hcm, hcs, htake⟩
  · have hx : l = [] := List.eq_nil_of_length_eq_zero hl
    subst hx
    by_cases hk : k = 0
    · subst hk
      refine ⟨.slice none 0 0, w, ?_, OwnB.nil_ w base e, World.grownBy.refl w _, .inl rfl⟩
      simp [Builtin.append_, run_underlying hT.ht, run_underlying htn, sizeOf, typeInfo, hi, asInt, asIntOf, IntKind.wrap_i64]
    · have hr := Lib.run_append_nil_zeros (P := P) w t tn ty e i0 (.int .u8 0) .i64 .i64 hT.ht htn hi hz0 k (by omega) (by omega) (by omega) (by rw [hz2]; simp at hlen; omega)
      have hgr := grown 0 (by simp; omega) (Nat.zero_le _) (Value.ownBlock (.slice none 0 0))
      rw [zeroCells_u8, zeroCells_u8] at hr
      simp only [List.length_nil, Nat.zero_add, List.nil_append, show (bcells []).toArray = #[] from rfl, Array.empty_append] at hgr ⊢
      exact ⟨_, _, hr, hgr.1, hgr.2, .inr rfl⟩
  · rw [Nat.mul_one] at hcs htake
    by_cases hroom : l.length + k ≤ cap
    · have hst := run_storeCells_at P g l.length e (bcells (zeros k)) 0 cur w hg (by rw [bcells_length, zeros_length]; omega) (bcells_one _)
      simp only [Nat.add_zero, bcells_length, zeros_length] at hst
      have hr : (Builtin.append_ #[t, tn] ty #[.slice (some ⟨g, 0, none⟩) l.length cap, .int .i64 k]).run P w = .ok (.slice (some ⟨g, 0, none⟩) (l.length + k) cap) (w.setRow g (cur.toList.take l.length ++ bcells (zeros k) ++ cur.toList.drop (l.length + k)).toArray) := by
        by_cases hk : k = 0
        · subst hk
          simp only [show bcells (zeros 0) = [] from rfl] at hst ⊢
          simp [Builtin.append_, run_underlying hT.ht, run_underlying htn, sizeOf, typeInfo, hi, asInt, asIntOf, IntKind.wrap_i64, hnc, storeCells]
          rw [setRow_self w g cur e (0, 0) hg]
        · simp [Builtin.append_, run_underlying hT.ht, run_underlying htn, sizeOf, typeInfo, zeroValue, hi, hz0, hz1, asInt, asIntOf, hw, hneg, h48i, hk, hroom, zeroCells_u8, Addr.add_lit, hst]
      refine ⟨_, _, hr, ?_, ⟨rfl, rfl, rfl, by simp, fun j _ hj => setRow_other w g j _ (fun e => hj (by simp [Value.ownBlock, e]))⟩, .inl rfl⟩
      unfold OwnB
      rw [List.length_append, zeros_length]
      refine ⟨by rw [bcells_length, List.length_append, zeros_length, Nat.mul_one], .inr ⟨g, cap, _, rfl, hbg, setRow_heap w g cur _ e _ hg, hroom, hcm, ?_, ?_⟩⟩
      · simp only [List.size_toArray, List.length_append, List.length_take, List.length_drop, Array.length_toList, bcells_length, zeros_length]
        omega
      · rw [htake, bcells_append, Nat.mul_one]
        exact List.take_left' (by simp [bcells_length, zeros_length])
    · have hold : (Builtin.firstCells i0.size l.length (.slice (some ⟨g, 0, none⟩) l.length cap)).run P w.drew = .ok (bcells l).toArray w.drew :=
        run_firstCells_some (P := P) w.drew i0.size l.length ⟨g, 0, none⟩ l.length cap (bcells l) (by rw [bcells_length, hz1, Nat.mul_one]) (World.ownsRow.cells (g := g) hown rfl)
      have hr := Lib.run_append_grow_zeros (P := P) w t tn ty e i0 (.int .u8 0) .i64 .i64 hT.ht htn hi hz0 (some ⟨g, 0, none⟩) l.length cap (bcells l) hold k (by omega) (by omega) (by omega) (by omega) (by rw [hz2]; omega) (by rw [hz2]; exact growslice_fits (by omega) (by omega))
      have hgr := grown cap (by omega) hcm (Value.ownBlock (.slice (some ⟨g, 0, none⟩) l.length cap))
      rw [zeroCells_u8, zeroCells_u8] at hr
      exact ⟨_, _, hr, hgr.1, hgr.2, .inr rfl⟩

theorem wpList_appZ {P : Program} {w : World} {ops : Array Oper} {rest : List Oper} {o : Oper} {a : Act} {Q : Exit → Act → World → Prop} {t tn e : TypeId} (hT : ByteT P t e) (htn : P.underlying tn = some (.int .i64)) (hgd : o.guard = none) (s x : Operand)
    (ho : o.op = .call { callee := .builtin .append, args := #[s, x], argTypes := #[t, tn] })
    {base : Nat} {v : Value} {l : List UInt8} (hown : OwnB w base e v l) (k : Nat)
    (hs : a.eval s = v) (hx : a.eval x = .int .i64 k) (hlen : l.length + k ≤ 70368744177664) (hbase : base ≤ w.heap.size)
    (h : ∀ v' w', OwnB w' base e v' (l ++ zeros k) → w.grownBy w' v.ownBlock → (v'.ownBlock = v.ownBlock ∨ v'.ownBlock = some w.heap.size) → wpList P ops Q rest (a.put o.dst v') w') : wpList P ops Q (o :: rest) a w := by
  obtain ⟨v', w', hr, h1, h2, h3⟩ := run_appZ hT htn o.type hown k hlen hbase
  exact Lib.wpList_append_run w hgd s x t tn ho _ _ hs hx v' w' hr (h v' w' h1 h2 h3)

theorem fitOf_zeros (l : List UInt8) (k : Nat) (h : l.length + k ≤ 64) : fitOf (l ++ zeros k) = fitOf l := by
  rw [fitOf, fitOf, if_neg (by rw [List.length_append, zeros_length]; omega), if_neg (by omega), List.append_assoc, List.length_append, zeros_length]
  congr 1
  rw [zeros, zeros, zeros, List.replicate_append_replicate]
  congr 1
  omega
theorem macOf_zeros (l d : List UInt8) (k : Nat) (h : l.length + k ≤ 64) : macOf (l ++ zeros k) d = macOf l d := by rw [macOf, macOf, fitOf_zeros l k h]

theorem and_low (a : Int) : ∃ q : Nat, q < 128 ∧ bits .and .i64 a 127 = (q : Int) := by
  refine ⟨(BitVec.ofInt 64 a &&& 127#64).toNat, ?_, ?_⟩
  · rw [BitVec.toNat_and]
    exact Nat.lt_of_le_of_lt Nat.and_le_right (by decide)
  · have hq : (BitVec.ofInt 64 a &&& 127#64).toNat < 128 := by
      rw [BitVec.toNat_and]
      exact Nat.lt_of_le_of_lt Nat.and_le_right (by decide)
    show IntKind.i64.wrap ((BitVec.ofInt 64 a &&& BitVec.ofInt 64 127).toNat : Int) = _
    rw [show BitVec.ofInt 64 127 = 127#64 from rfl, IntKind.wrap_i64]
    omega
end Go.Proofs.YtndnmjolcilamaaDoor
