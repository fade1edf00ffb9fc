/- By sums: append onto all of an array; sumBox. -/
import Derived.Test.YtaanhancjmigdaaDoorSej
namespace Go.Proofs.YtaanhancjmigdaaDoor
open Go.RowKit Go.Maps

/-- All of an array's bytes, or a row of the call's own. -/
def OwnZ (w : World) (base : Nat) (e : TypeId) (v : Value) (l : List UInt8) : Prop :=
  (∃ (g : Nat) (t : TypeId), v = .slice (some ⟨g, 0, none⟩) l.length l.length ∧ base ≤ g ∧ CB w g t (bcells l)) ∨ OwnB w base e v l
theorem OwnZ.kept {w w' : World} {base : Nat} {e : TypeId} {v : Value} {l : List UInt8} (h : OwnZ w base e v l) (hg : w.grownBy w' none) : OwnZ w' base e v l := by
  rcases h with ⟨g, t, h1, h2, h3⟩ | h
  · exact .inl ⟨g, t, h1, h2, h3.kept hg⟩
  · exact .inr (OwnB.kept_ h hg (fun z e => by cases e))
theorem OwnZ.shape {w : World} {base : Nat} {e : TypeId} {v : Value} {l : List UInt8} (h : OwnZ w base e v l) (hm : l.length ≤ maxLen) : ∃ A cap, v = .slice A l.length cap ∧ RB w w.heap.size A l cap := by
  rcases h with ⟨g, t, rfl, h2, h3⟩ | h
  · exact ⟨_, _, rfl, RB.ofCB h3 hm⟩
  · obtain ⟨A, c, h1, h2, -⟩ := h.shape
    exact ⟨A, c, h1, h2⟩
section
variable {P : Program} {w : World} {ops : Array Oper} {rest : List Oper} {o : Oper} {a : Act} {Q : Exit → Act → World → Prop}
theorem run_appF {t e : TypeId} (hT : ByteT P t e) (ty : TypeId) {g base : Nat} {t' : TypeId} {l : List UInt8} (h : CB w g t' (bcells l)) {B : Nat} {A : Option Addr} {news : List UInt8} {c : Nat} (hr : RB w B A news c) (hlen : l.length + news.length ≤ 70368744177664) (hbase : base ≤ w.heap.size) :
    ∃ v' w', (Builtin.append_ #[t, t] ty #[.slice (some ⟨g, 0, none⟩) l.length l.length, .slice A news.length c]).run P w = .ok v' w' ∧ w.grownBy w' none ∧ ((news = [] ∧ v' = .slice (some ⟨g, 0, none⟩) l.length l.length) ∨ OwnB w' base e v' (l ++ news)) := by
  obtain ⟨i0, hi, hz0, hz1, hz2⟩ := info_parts hT.hi
  obtain ⟨h1, h2, h3⟩ := hr
  have holds : ∀ j u, (bcells l)[j]? = some u → w.cell? ((⟨g, 0, none⟩ : Addr).add j) = some u := fun j u hu => by
    rw [Addr.add_lit, Nat.zero_add]
    exact h.at_ hu
  rcases h3 with ⟨rfl, rfl⟩ | ⟨ad, rfl, hcell⟩
  · have hn : news = [] := List.eq_nil_of_length_eq_zero (by omega)
    subst hn
    refine ⟨_, w, ?_, World.grownBy.refl w _, .inl ⟨rfl, rfl⟩⟩
    simp [Builtin.append_, run_underlying hT.ht, sizeOf, typeInfo, hi, Builtin.lenOf, Builtin.firstCells, storeCells]
  · have hnews : ∀ j u, (bcells news)[j]? = some u → w.cell? (ad.add j) = some u := fun j u hu => by
      rw [bcells_at] at hu
      obtain ⟨x, hx, rfl⟩ := Option.map_eq_some_iff.1 hu
      exact (hcell j x hx).2
    by_cases hn : news = []
    · subst hn
      have hf := run_firstCells_some (P := P) w i0.size 0 ad 0 c [] (by simp) (by simp)
      refine ⟨_, w, ?_, World.grownBy.refl w _, .inl ⟨rfl, rfl⟩⟩
      simp [Builtin.append_, run_underlying hT.ht, sizeOf, typeInfo, hi, Builtin.lenOf, hf, storeCells]
    · have hpos : 0 < news.length := by
        rcases news with _ | ⟨u, news⟩
        · exact absurd rfl hn
        · simp
      have hr := run_append_grow (P := P) w t ty e i0 (.int .u8 0) hT.ht hi hz0 ⟨g, 0, none⟩ l.length l.length (bcells l) (by rw [bcells_length, hz1, Nat.mul_one]) holds ad news.length c (bcells news) (by rw [bcells_length, hz1, Nat.mul_one]) hnews (by omega) (by omega) (by rw [hz2]; exact growslice_fits (by omega) (by omega))
      have hge := grownCap_ge w (l.length + news.length) l.length e
      have hcm : grownCap w (l.length + news.length) l.length e ≤ maxLen := grownCap_le_maxLen w (l.length + news.length) l.length e (by unfold maxLen; omega)
      refine ⟨_, _, hr, ⟨rfl, rfl, rfl, by simp, fun j hj _ => Below.heap_alloc w.drew _ j hj⟩, .inr ⟨by simp [bcells], .inr ⟨w.heap.size, _, _, by rw [List.length_append], hbase, heap_alloc_new w.drew _, by rw [List.length_append]; exact hge, hcm, ?_, ?_⟩⟩⟩
      · simp only [Array.size_append, List.size_toArray, size_zeroCells, bcells_length]
        simp [Value.cells]
        omega
      · simp only [Array.toList_append, List.append_assoc]
        rw [← List.append_assoc, ← bcells_append, Nat.mul_one]
        exact List.take_left' (by rw [bcells_length])
/-- In a region that draws its order. -/
theorem wp_appF {d : Option Tmp} {K : Act → World → Prop} {t e : TypeId} (hT : ByteT P t e) (hd : o.dst = d) (s x : Operand)
    (ho : o.op = .call { callee := .builtin .append, args := #[s, x], argTypes := #[t, t] })
    {g base : Nat} {t' : TypeId} {l : List UInt8} (h : CB w g t' (bcells l)) {B : Nat} {A : Option Addr} {news : List UInt8} {c : Nat} (hr : RB w B A news c) (hlen : l.length + news.length ≤ 70368744177664) (hbase : base ≤ w.heap.size) (hbg : base ≤ g)
    (hs : a.eval s = .slice (some ⟨g, 0, none⟩) l.length l.length) (hx : a.eval x = .slice A news.length c)
    (hk : ∀ v' w', OwnZ w' base e v' (l ++ news) → w.grownBy w' none → K (a.put d v') w') : o.wp P a w K Q := by
  subst hd
  obtain ⟨v', w', hrun, h2, h3⟩ := run_appF hT o.type h hr hlen hbase
  unfold Oper.wp execOp
  simp only [ho, resolve, invoke, builtin, Sem.run_bind, Sem.run_pure, Result.andThen_ok, List.map_toArray, List.map_cons, List.map_nil, hs, hx, hrun]
  refine hk v' w' ?_ h2
  rcases h3 with ⟨rfl, rfl⟩ | h3
  · exact .inl ⟨g, t', by rw [List.append_nil], hbg, by rw [List.append_nil]; exact h.kept h2⟩
  · exact .inr h3
/-- Bytes onto either. -/
theorem wpList_appZZ {t e : TypeId} (hT : ByteT P t e) (hgd : o.guard = none) (s x : Operand)
    (ho : o.op = .call { callee := .builtin .append, args := #[s, x], argTypes := #[t, t] })
    {base : Nat} {v : Value} {l : List UInt8} (hown : OwnZ w base e v l) {B : Nat} {A : Option Addr} {news : List UInt8} {c : Nat} (hr : RB w B A news c) (hne : news ≠ [])
    (hs : a.eval s = v) (hx : a.eval x = .slice A news.length c) (hlen : l.length + news.length ≤ 70368744177664) (hbase : base ≤ w.heap.size)
    (h : ∀ v' w' r, OwnB w' base e v' (l ++ news) → w.grownBy w' r → (∀ z, r = some z → base ≤ z) → wpList P ops Q rest (a.put o.dst v') w') : wpList P ops Q (o :: rest) a w := by
  refine wpList_plain hgd fun K hK => ?_
  rcases hown with ⟨g, t', rfl, hb, hc⟩ | hown
  · obtain ⟨v', w', hrun, h2, h3⟩ := run_appF hT o.type hc hr hlen hbase
    unfold Oper.wp execOp
    simp only [ho, resolve, invoke, builtin, Sem.run_bind, Sem.run_pure, Result.andThen_ok, List.map_toArray, List.map_cons, List.map_nil, hs, hx, hrun]
    exact hK _ _ (h v' w' none (h3.resolve_left (fun e => hne e.1)) h2 (fun z e => by cases e))
  · obtain ⟨v', w', hrun, h2, h3, -, -⟩ := run_appB hT o.type hown hr (by omega) hbase
    unfold Oper.wp execOp
    simp only [ho, resolve, invoke, builtin, Sem.run_bind, Sem.run_pure, Result.andThen_ok, List.map_toArray, List.map_cons, List.map_nil, hs, hx, hrun]
    exact hK _ _ (h v' w' _ h2 h3 (fun z e => (OwnB.lt hown z e).1))
end
end Go.Proofs.YtaanhancjmigdaaDoor
