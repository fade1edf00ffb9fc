/- Rows of bytes of the call's own behind which a conversion has left its mark; '[]byte(s)', append onto such a row. Plain lemmas, no program. -/
import Derived.Test.YtfpcabfpnekejaaDoorPs
import Derived.Test.YtfpcabfpnekejaaDoorNumW
namespace Go.Proofs.YtfpcabfpnekejaaDoor
open Go.RowKit

/-- A row of bytes of the call's own, a mark behind it or none. -/
def OwnG (w : World) (base : Nat) (e : TypeId) (v : Value) (l : List UInt8) : Prop :=
  (v = .slice none 0 0 ∧ l = []) ∨ ∃ (g cap : Nat) (cur : Array Value) (fz : Nat × Nat), v = .slice (some ⟨g, 0, none⟩) l.length cap ∧ base ≤ g ∧ w.heap[g]? = some (.cells cur e fz) ∧ l.length ≤ cap ∧ cap ≤ maxLen ∧ cur.size = cap ∧ cur.toList.take l.length = bcells l ∧ (fz.2 = 0 ∨ cap ≤ fz.1)

theorem OwnB.toG {w : World} {base : Nat} {e : TypeId} {v : Value} {l : List UInt8} (h : OwnB w base e v l) : OwnG w base e v l := by
  rcases h.2 with ⟨rfl, hl⟩ | ⟨g, cap, cur, rfl, hb, hg, hc, hm, hcs, ht⟩
  · exact .inl ⟨rfl, List.eq_nil_of_length_eq_zero hl⟩
  · rw [Nat.mul_one] at hcs ht
    exact .inr ⟨g, cap, cur, (0, 0), rfl, hb, hg, hc, hm, hcs, ht, .inl rfl⟩
theorem OwnG.shape {w : World} {base : Nat} {e : TypeId} {v : Value} {l : List UInt8} (h : OwnG w base e v l) : ∃ A cap, v = .slice A l.length cap ∧ RB w w.heap.size A l cap ∧ (∀ g, v.ownBlock = some g → base ≤ g ∧ g < w.heap.size) := by
  rcases h with ⟨rfl, rfl⟩ | ⟨g, cap, cur, fz, rfl, hb, hg, hc, hm, hcs, ht, -⟩
  · exact ⟨none, 0, rfl, RB.nil_ _ _, fun g hg => by simp [Value.ownBlock] at hg⟩
  · have hlt := (Array.getElem?_eq_some_iff.1 hg).1
    refine ⟨_, cap, rfl, ⟨hc, hm, .inr ⟨_, rfl, fun k u hu => ⟨hlt, ?_⟩⟩⟩, fun g' hg' => by simp [Value.ownBlock] at hg'; omega⟩
    rw [Addr.add_lit, Nat.zero_add, cell_of_row w g k cur e fz hg, ← Array.getElem?_toList]
    have hk : k < l.length := (List.getElem?_eq_some_iff.1 hu).1
    have h1 : (cur.toList.take l.length)[k]? = some (.int .u8 (u.toNat : Int)) := by rw [ht, bcells_at, hu]; rfl
    rwa [List.getElem?_take_of_lt hk] at h1
theorem OwnG.kept {w w' : World} {base : Nat} {e : TypeId} {v : Value} {l : List UInt8} (h : OwnG w base e v l) (hg : w.grownBy w' none) : OwnG w' base e v l := by
  rcases h with h | ⟨g, cap, cur, fz, hv, hb, h1, r⟩
  · exact .inl h
  · exact .inr ⟨g, cap, cur, fz, hv, hb, (hg.block g (Array.getElem?_eq_some_iff.1 h1).1 (fun e => by cases e)).trans h1, r⟩

theorem storeM (P : Program) (g : Nat) (t : TypeId) (fz : Nat × Nat) (n : Nat) (hfz : fz.2 = 0 ∨ n ≤ fz.1) : ∀ (vs : List Value) (o i : Nat) (cur : Array Value) (w : World), w.heap[g]? = some (.cells cur t fz) → cur.size = n → o + i + vs.length ≤ n → (∀ v ∈ vs, v.oneCell' = true) →
    (storeCells ⟨g, o, none⟩ vs i).run P w = .ok () (w.setRow g (cur.toList.take (o + i) ++ vs ++ cur.toList.drop (o + i + vs.length)).toArray)
  | [], o, i, cur, w, hg, _, _, _ => by
    simp only [storeCells, List.append_nil, List.length_nil, Nat.add_zero, List.take_append_drop, Array.toArray_toList]
    rw [setRow_self w g cur t fz hg]
    rfl
  | v :: rest, o, i, cur, w, hg, hn, hl, h1 => by
    rw [List.length_cons] at hl
    have hi : o + i < cur.size := by omega
    have hcell : w.cell? ⟨g, o + i, none⟩ = some cur[o + i] := by simp [World.cell?, hg, hi]
    have hfro : w.frozen? ⟨g, o + i, none⟩ = false := by
      obtain ⟨lo, hi'⟩ := fz
      simp only [World.frozen?, hg, Bool.and_eq_false_iff, decide_eq_false_iff_not]
      simp only at hfz
      omega
    have hst : (store ((⟨g, o, none⟩ : Addr).add i) v).run P w = .ok () (w.setRow g (cur.setIfInBounds (o + i) v)) := by
      rw [Addr.add_lit, run_store P w _ v _ (h1 v (by simp)), hcell]
      simp [hfro, setCell_eq_setRow w g (o + i) cur t fz v hg]
    have ih := storeM P g t fz n hfz rest o (i + 1) (cur.setIfInBounds (o + i) v) (w.setRow g (cur.setIfInBounds (o + i) v)) (setRow_heap w g cur _ t _ hg) (by simpa using hn) (by omega) (fun x hx => h1 x (by simp [hx]))
    simp only [storeCells, Sem.run_bind, hst, Result.andThen_ok, ih, setRow_setRow]
    congr 3
    have e := list_seg_step cur.toList (o + i) v rest (by simp; omega)
    simpa [Array.toList_setIfInBounds, Nat.add_assoc] using e

section
variable {P : Program} {w : World} {ops : Array Oper} {rest : List Oper} {o : Oper} {a : Act} {Q : Exit → Act → World → Prop}

theorem run_appG {t e : TypeId} (hT : ByteT P t e) (ty : TypeId) {base : Nat} {v : Value} {l : List UInt8} (hown : OwnG w base e v l)
    {B : Nat} {A : Option Addr} {news : List UInt8} {c : Nat} (hr : RB w B A news c) (hlen : l.length + news.length ≤ 70368744177664) (hbase : base ≤ w.heap.size) :
    ∃ v' w', (Builtin.append_ #[t, t] ty #[v, .slice A news.length c]).run P w = .ok v' w' ∧ OwnG w' base e v' (l ++ news) ∧ w.grownBy w' v.ownBlock ∧ (v'.ownBlock = v.ownBlock ∨ v'.ownBlock = some w.heap.size) := by
  rcases hown with ⟨rfl, rfl⟩ | ⟨g, cap, cur, fz, rfl, hb, hg, hc, hm, hcs, ht, hfz⟩
  · obtain ⟨v', w', h1, h2, h3, _, h5⟩ := run_appB hT ty (OwnB.nil_ w base e) hr (by omega) hbase
    exact ⟨v', w', h1, h2.toG, h3, h5⟩
  · obtain ⟨i0, hi, hz0, hz1, hz2⟩ := info_parts hT.hi
    have H1 : OwnG w base e (.slice (some ⟨g, 0, none⟩) l.length cap) l := .inr ⟨g, cap, cur, fz, rfl, hb, hg, hc, hm, hcs, ht, hfz⟩
    obtain ⟨h1, h2, h3⟩ := hr
    rcases h3 with ⟨rfl, rfl⟩ | ⟨ad, rfl, hcell⟩
    · have hn : news = [] := List.eq_nil_of_length_eq_zero (by omega)
      subst hn
      refine ⟨_, w, ?_, by rw [List.append_nil]; exact H1, World.grownBy.refl w _, .inl rfl⟩
      simp [Builtin.append_, run_underlying hT.ht, sizeOf, typeInfo, hi, Builtin.lenOf, Builtin.firstCells, hc, storeCells]
    · have hnews : ∀ j u, (bcells news)[j]? = some u → w.cell? (ad.add j) = some u := fun j u hu => by
        rw [bcells_at] at hu
        obtain ⟨x, hx, rfl⟩ := Option.map_eq_some_iff.1 hu
        exact (hcell j x hx).2
      by_cases hroom : l.length + news.length ≤ cap
      · have hf := run_firstCells_some (P := P) w i0.size news.length ad news.length c (bcells news) (by rw [bcells_length, hz1, Nat.mul_one]) hnews
        have hst := storeM P g e fz cap hfz (bcells news) l.length 0 cur w hg hcs (by rw [bcells_length]; omega) (bcells_one _)
        simp only [Nat.add_zero, bcells_length] at hst
        rw [hz1] at hf
        have hrun : (Builtin.append_ #[t, t] ty #[.slice (some ⟨g, 0, none⟩) l.length cap, .slice (some ad) news.length c]).run P w = .ok (.slice (some ⟨g, 0, none⟩) (l.length + news.length) cap) (w.setRow g (cur.toList.take l.length ++ bcells news ++ cur.toList.drop (l.length + news.length)).toArray) := by
          simp [Builtin.append_, run_underlying hT.ht, sizeOf, typeInfo, hi, Builtin.lenOf, hroom, hf, Addr.add_lit, hz1, hst]
        refine ⟨.slice (some ⟨g, 0, none⟩) (l.length + news.length) cap, _, hrun, ?_, ⟨rfl, rfl, rfl, by simp, fun j _ hj => setRow_other w g j _ (fun e => hj (by simp [Value.ownBlock, e]))⟩, .inl rfl⟩
        refine .inr ⟨g, cap, _, fz, by rw [List.length_append], hb, setRow_heap w g cur _ e _ hg, by rw [List.length_append]; exact hroom, hm, ?_, ?_, hfz⟩
        · simp only [List.size_toArray, List.length_append, List.length_take, List.length_drop, Array.length_toList, bcells_length]
          omega
        · rw [ht, bcells_append]
          exact List.take_left' (by simp [bcells_length])
      · have hlt := (Array.getElem?_eq_some_iff.1 hg).1
        have holds : ∀ j u, (bcells l)[j]? = some u → w.cell? ((⟨g, 0, none⟩ : Addr).add j) = some u := fun j u hu => by
          have hk : j < l.length := by rw [← bcells_length l]; exact (List.getElem?_eq_some_iff.1 hu).1
          rw [Addr.add_lit, Nat.zero_add, cell_of_row w g j cur e fz hg, ← Array.getElem?_toList]
          rw [← ht, List.getElem?_take_of_lt hk] at hu
          exact hu
        have hr := run_append_grow (P := P) w t ty e i0 (.int .u8 0) hT.ht hi hz0 ⟨g, 0, none⟩ l.length cap (bcells l) (by rw [bcells_length, hz1, Nat.mul_one]) holds ad news.length c (bcells news) (by rw [bcells_length, hz1, Nat.mul_one]) hnews (by omega) (by omega) (by rw [hz2]; exact growslice_fits (by omega) (by omega))
        have hge := grownCap_ge w (l.length + news.length) cap e
        have hcm : grownCap w (l.length + news.length) cap e ≤ maxLen := grownCap_le_maxLen w (l.length + news.length) cap e (by unfold maxLen; omega)
        refine ⟨_, _, hr, .inr ⟨w.heap.size, _, _, (0, 0), by rw [List.length_append], hbase, heap_alloc_new w.drew _, by rw [List.length_append]; exact hge, hcm, ?_, ?_, .inl rfl⟩, ⟨rfl, rfl, rfl, by simp, fun j hj _ => Below.heap_alloc w.drew _ j hj⟩, .inr rfl⟩
        · simp only [Array.size_append, List.size_toArray, size_zeroCells, bcells_length]
          simp [Value.cells]
          omega
        · simp only [Array.toList_append, List.append_assoc]
          rw [← List.append_assoc, ← bcells_append]
          exact List.take_left' (by rw [bcells_length])

theorem wpList_appG {t e : TypeId} (hT : ByteT P t e) (hgd : o.guard = none) (s x : Operand)
    (ho : o.op = .call { callee := .builtin .append, args := #[s, x], argTypes := #[t, t] })
    {base : Nat} {v : Value} {l : List UInt8} (hown : OwnG w base e v l) {B : Nat} {A : Option Addr} {news : List UInt8} {c : Nat} (hr : RB w B A news c)
    (hs : a.eval s = v) (hx : a.eval x = .slice A news.length c) (hlen : l.length + news.length ≤ 70368744177664) (hbase : base ≤ w.heap.size)
    (h : ∀ v' w', OwnG w' base e v' (l ++ news) → w.grownBy w' v.ownBlock → (v'.ownBlock = v.ownBlock ∨ v'.ownBlock = some w.heap.size) →
      wpList P ops Q rest (a.put o.dst v') w') : wpList P ops Q (o :: rest) a w := by
  refine wpList_plain hgd fun K hK => ?_
  obtain ⟨v', w', hrun, h2, h3, h5⟩ := run_appG hT o.type hown hr hlen hbase
  unfold Oper.wp execOp
  simp only [ho, resolve, invoke, builtin, Sem.run_bind, Sem.run_pure, Result.andThen_ok, List.map_toArray, List.map_cons, List.map_nil, hs, hx, hrun]
  exact hK _ _ (h v' w' h2 h3 h5)
/-- The same in a region that draws its order. -/
theorem wp_appG {d : Option Tmp} {K : Act → World → Prop} {t e : TypeId} (hT : ByteT P t e) (hd : o.dst = d) (s x : Operand)
    (ho : o.op = .call { callee := .builtin .append, args := #[s, x], argTypes := #[t, t] })
    {base : Nat} {v : Value} {l : List UInt8} (hown : OwnG w base e v l) {B : Nat} {A : Option Addr} {news : List UInt8} {c : Nat} (hr : RB w B A news c)
    (hs : a.eval s = v) (hx : a.eval x = .slice A news.length c) (hlen : l.length + news.length ≤ 70368744177664) (hbase : base ≤ w.heap.size)
    (h : ∀ v' w', OwnG w' base e v' (l ++ news) → w.grownBy w' v.ownBlock → (v'.ownBlock = v.ownBlock ∨ v'.ownBlock = some w.heap.size) → K (a.put d v') w') : o.wp P a w K Q := by
  subst hd
  obtain ⟨v', w', hrun, h2, h3, h5⟩ := run_appG hT o.type hown hr hlen hbase
  unfold Oper.wp execOp
  simp only [ho, resolve, invoke, builtin, Sem.run_bind, Sem.run_pure, Result.andThen_ok, List.map_toArray, List.map_cons, List.map_nil, hs, hx, hrun]
  exact h v' w' h2 h3 h5

/-- '[]byte(s)'. -/
theorem run_convG {src t e : TypeId} (hT : ByteT P t e) (hs : P.underlying src = some .string) (s : ByteArray) (hl : s.size ≤ 70368744177664) :
    ∃ v' w', (convert src t (.string s)).run P w = .ok v' w' ∧ OwnG w' w.heap.size e v' s.data.toList ∧ w.grownBy w' none ∧ v'.ownBlock = some w.heap.size := by
  have hr := run_bytes_of_string (P := P) w src t e s hs hT.ht hT.he
  have hge := grownCap_ge w s.size 0 e
  have hcm : grownCap w s.size 0 e ≤ maxLen := grownCap_le_maxLen w s.size 0 e (by unfold maxLen; omega)
  have hsz : (bytesRow s (grownCap w s.size 0 e)).size = grownCap w s.size 0 e := by
    have : s.data.size = s.size := rfl
    simp [bytesRow]
    omega
  rw [hsz] at hr
  refine ⟨_, _, hr, .inr ⟨w.heap.size, _, _, (grownCap w s.size 0 e, grownCap w s.size 0 e + 1), rfl, Nat.le_refl _, ?_, hge, hcm, hsz, ?_, .inr (Nat.le_refl _)⟩, ⟨rfl, rfl, rfl, by simp, fun j hj _ => Below.heap_alloc w.drew _ j hj⟩, rfl⟩
  · show (w.heap.push _)[w.heap.size]? = _
    simp
  · have : s.data.toList.length = s.size := rfl
    simp only [bytesRow, Array.toList_append, Array.toList_map]
    exact List.take_left' (by simp)
theorem wpList_convG {src t e : TypeId} (hT : ByteT P t e) (hs : P.underlying src = some .string) (hgd : o.guard = none) (x : Operand) (ho : o.op = .convert src t x) (s : ByteArray) (hl : s.size ≤ 70368744177664) (hx : a.eval x = .string s)
    (h : ∀ v' w', OwnG w' w.heap.size e v' s.data.toList → w.grownBy w' none → v'.ownBlock = some w.heap.size → wpList P ops Q rest (a.put o.dst v') w') : wpList P ops Q (o :: rest) a w := by
  refine wpList_plain hgd fun K hK => ?_
  obtain ⟨v', w', hrun, h2, h3, h4⟩ := run_convG (w := w) hT hs s hl
  unfold Oper.wp execOp
  simp only [ho, hx, Sem.run_bind, Sem.run_pure, Result.andThen_ok, hrun]
  exact hK _ _ (h v' w' h2 h3 h4)
theorem wp_convG {d : Option Tmp} {K : Act → World → Prop} {src t e : TypeId} (hT : ByteT P t e) (hs : P.underlying src = some .string) (hd : o.dst = d) (x : Operand) (ho : o.op = .convert src t x) (s : ByteArray) (hl : s.size ≤ 70368744177664) (hx : a.eval x = .string s)
    (h : ∀ v' w', OwnG w' w.heap.size e v' s.data.toList → w.grownBy w' none → v'.ownBlock = some w.heap.size → K (a.put d v') w') : o.wp P a w K Q := by
  subst hd
  obtain ⟨v', w', hrun, h2, h3, h4⟩ := run_convG (w := w) hT hs s hl
  unfold Oper.wp execOp
  simp only [ho, hx, Sem.run_bind, Sem.run_pure, Result.andThen_ok, hrun]
  exact h v' w' h2 h3 h4
end
theorem run_arrayAt {P : Program} {t e : TypeId} {n : Nat} (ht : P.underlying t = some (.array n e)) (a : Option Addr) (len cap : Nat) (h : n ≤ len) (w : World) : (Instr.arrayAt t (.slice a len cap)).run P w = .ok (.pointer a) w := by
  have h' : ¬ len < n := by omega
  simp [Instr.arrayAt, run_underlying ht, h']
end Go.Proofs.YtfpcabfpnekejaaDoor
