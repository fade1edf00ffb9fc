/- Lists that rise by a name of their elements: found, set, put in, taken out. Rows of structs: one is laid over, several are put behind. Plain lemmas, no program. -/
import Derived.Test.YtlkchajkhplapaaGreatDoorRow
namespace Go.Proofs.YtlkchajkhplapaaGreatDoor
open Go.RowKit

section
variable {α : Type} (nm : α → List UInt8)
/-- The names rise. -/
def SortN (E : List α) : Prop := (E.map nm).Pairwise (· < ·)
def atS (E : List α) (n : List UInt8) : Option Nat := E.findIdx? (fun e => decide (nm e = n))
/-- out is E, with e where it belongs. -/
def InsR (E : List α) (e : α) (out : List α) : Prop :=
  ∃ i, i ≤ E.length ∧ out = E.take i ++ e :: E.drop i ∧ (∀ j x, E[j]? = some x → j < i → ¬ nm e < nm x) ∧ (∀ x, E[i]? = some x → nm e < nm x)
variable {nm} {E out : List α} {e : α} {n : List UInt8} {i : Nat}
theorem atS_some (h : atS nm E n = some i) : ∃ x, E[i]? = some x ∧ nm x = n ∧ ∀ j y, E[j]? = some y → j < i → nm y ≠ n := by
  obtain ⟨hi, h1, h2⟩ := List.findIdx?_eq_some_iff_getElem.1 h
  refine ⟨E[i], List.getElem?_eq_getElem hi, by simpa using h1, fun j y hy hj => ?_⟩
  obtain ⟨hj', rfl⟩ := List.getElem?_eq_some_iff.1 hy
  simpa using h2 j hj
theorem atS_none : atS nm E n = none ↔ ∀ x ∈ E, nm x ≠ n := by
  unfold atS
  rw [List.findIdx?_eq_none_iff]
  simp
theorem atS_of {x : α} (h1 : E[i]? = some x) (h2 : nm x = n) (h3 : ∀ j y, E[j]? = some y → j < i → nm y ≠ n) : atS nm E n = some i := by
  obtain ⟨hi, rfl⟩ := List.getElem?_eq_some_iff.1 h1
  exact List.findIdx?_eq_some_iff_getElem.2 ⟨hi, by simpa using h2, fun j hj => by simpa using h3 j _ (List.getElem?_eq_getElem (by omega)) hj⟩
theorem lt_asymmB {a b : List UInt8} (h : a < b) : ¬ b < a := fun h2 => List.lt_irrefl a (List.lt_trans h h2)
theorem lt_of_not {a b : List UInt8} (h : ¬ a < b) (hne : a ≠ b) : b < a := by
  by_cases h2 : b < a
  · exact h2
  · exact absurd (List.le_antisymm (List.not_lt.1 h2) (List.not_lt.1 h)) hne
theorem SortN.nodup (h : SortN nm E) : (E.map nm).Nodup := List.Pairwise.imp (fun h e => by subst e; exact List.lt_irrefl _ h) h
/-- A sorted list falls apart at a name. -/
theorem SortN.split (h : SortN nm E) (hat : atS nm E n = some i) : ∃ x, E = E.take i ++ x :: E.drop (i + 1) ∧ E[i]? = some x ∧ nm x = n ∧ (∀ y ∈ E.take i, nm y ≠ n) ∧ (∀ y ∈ E.drop (i + 1), nm y ≠ n) := by
  obtain ⟨x, hx, hn, hb⟩ := atS_some hat
  obtain ⟨hi, hxe⟩ := List.getElem?_eq_some_iff.1 hx
  have hs : E = E.take i ++ x :: E.drop (i + 1) := by
    conv => lhs; rw [← List.take_append_drop i E]
    rw [List.drop_eq_getElem_cons hi, hxe]
  refine ⟨x, hs, hx, hn, fun y hy => ?_, fun y hy => ?_⟩
  · obtain ⟨j, hj, rfl⟩ := List.getElem_of_mem hy
    have hj2 : j < i := by rw [List.length_take] at hj; omega
    exact hb j _ (by rw [← List.getElem?_eq_getElem hj, List.getElem?_take, if_pos hj2]) hj2 |> fun q => by
      have e1 : (E.take i)[j] = E[j]'(by omega) := List.getElem_take
      rw [e1]
      exact hb j _ (List.getElem?_eq_getElem (by omega)) hj2
  · have h1 := h
    rw [hs] at h1
    unfold SortN at h1
    rw [List.map_append, List.map_cons] at h1
    have h2 := (List.pairwise_append.1 h1).2.1
    have h3 := (List.pairwise_cons.1 h2).1 (nm y) (List.mem_map_of_mem hy)
    intro e
    rw [e, hn] at h3
    exact List.lt_irrefl _ h3
theorem SortN.cut (h : SortN nm E) (hat : atS nm E n = some i) : E.filter (fun x => decide (nm x ≠ n)) = E.take i ++ E.drop (i + 1) := by
  obtain ⟨x, hs, -, hn, h1, h2⟩ := h.split hat
  conv => lhs; rw [hs]
  rw [List.filter_append, List.filter_cons, if_neg (by simp [hn]), List.filter_eq_self.2 (fun y hy => by simpa using h1 y hy), List.filter_eq_self.2 (fun y hy => by simpa using h2 y hy)]
theorem SortN.cut_none (hat : atS nm E n = none) : E.filter (fun x => decide (nm x ≠ n)) = E :=
  List.filter_eq_self.2 (fun y hy => by simpa using atS_none.1 hat y hy)
theorem SortN.filter (h : SortN nm E) (p : α → Bool) : SortN nm (E.filter p) := by
  unfold SortN at *
  exact List.Pairwise.sublist (List.Sublist.map _ List.filter_sublist) h
theorem SortN.set (h : SortN nm E) (hat : atS nm E n = some i) (he : nm e = n) : SortN nm (E.set i e) := by
  obtain ⟨x, -, hx, hn, -, -⟩ := h.split hat
  obtain ⟨hi, hxe⟩ := List.getElem?_eq_some_iff.1 hx
  unfold SortN at *
  rw [List.map_set]
  have hh : (E.map nm).set i (nm e) = E.map nm := by
    rw [show nm e = (E.map nm)[i]'(by rw [List.length_map]; exact hi) by rw [List.getElem_map, hxe, hn, he]]
    exact List.set_getElem_self _
  rw [hh]
  exact h
theorem SortN.set_perm (h : SortN nm E) (hat : atS nm E n = some i) : (E.set i e).Perm (E.filter (fun x => decide (nm x ≠ n)) ++ [e]) := by
  obtain ⟨x, hs, hx, hn, -, -⟩ := h.split hat
  obtain ⟨hi, hxe⟩ := List.getElem?_eq_some_iff.1 hx
  rw [h.cut hat]
  have h2 : E.set i e = E.take i ++ e :: E.drop (i + 1) := by
    rw [List.set_eq_take_append_cons_drop, if_pos hi]
  rw [h2]
  exact List.perm_middle.trans (List.perm_append_singleton e _).symm
theorem InsR.perm (h : InsR nm E e out) : out.Perm (E ++ [e]) := by
  obtain ⟨i, hi, rfl, -, -⟩ := h
  refine List.perm_middle.trans ?_
  rw [List.take_append_drop]
  exact (List.perm_append_singleton e _).symm
theorem InsR.sorted (h : InsR nm E e out) (hs : SortN nm E) (hn : ∀ x ∈ E, nm x ≠ nm e) : SortN nm out := by
  obtain ⟨i, hi, rfl, h1, h2⟩ := h
  have hs0 := hs
  unfold SortN at *
  rw [← List.take_append_drop i E, List.map_append] at hs
  obtain ⟨p1, p2, p3⟩ := List.pairwise_append.1 hs
  rw [List.map_append, List.map_cons]
  have a1 : ∀ y ∈ E.take i, nm y < nm e := by
    intro y hy
    obtain ⟨j, hj, rfl⟩ := List.getElem_of_mem hy
    have hj2 : j < i := by rw [List.length_take] at hj; omega
    have e1 : (E.take i)[j] = E[j]'(by omega) := List.getElem_take
    rw [e1]
    exact lt_of_not (h1 j _ (List.getElem?_eq_getElem (by omega)) hj2) (fun q => hn _ (List.getElem_mem _) q.symm)
  have a2 : ∀ y ∈ E.drop i, nm e < nm y := by
    by_cases hl : i < E.length
    · have b0 := h2 _ (List.getElem?_eq_getElem hl)
      rw [List.drop_eq_getElem_cons hl] at p2 ⊢
      intro y hy
      rcases List.mem_cons.1 hy with rfl | hy
      · exact b0
      · rw [List.map_cons] at p2
        exact List.lt_trans b0 ((List.pairwise_cons.1 p2).1 (nm y) (List.mem_map_of_mem hy))
    · intro y hy
      rw [List.drop_eq_nil_of_le (by omega)] at hy
      cases hy
  refine List.pairwise_append.2 ⟨p1, List.pairwise_cons.2 ⟨fun b hb => ?_, p2⟩, fun a ha b hb => ?_⟩
  · obtain ⟨y, hy, rfl⟩ := List.mem_map.1 hb
    exact a2 y hy
  · obtain ⟨x, hx, rfl⟩ := List.mem_map.1 ha
    rcases List.mem_cons.1 hb with rfl | hb
    · exact a1 x hx
    · exact p3 _ ha _ hb
theorem SortN.unique {F : List α} (h : SortN nm E) (h2 : (F.map nm).Pairwise (· ≤ ·)) (hp : E.Perm F) : E = F := by
  refine List.Perm.eq_of_pairwise (le := fun a b => nm a ≤ nm b) (fun a b ha hb h1 h3 => ?_) ?_ ?_ hp
  · have hab : nm a = nm b := List.le_antisymm h1 h3
    have ha' := ha
    have hb' : b ∈ E := hp.mem_iff.2 hb
    have hnd := h.nodup
    obtain ⟨i, hi, rfl⟩ := List.getElem_of_mem ha
    obtain ⟨j, hj, rfl⟩ := List.getElem_of_mem hb'
    have hij : i = j := (List.getElem_inj (h₀ := by rw [List.length_map]; exact hi) (h₁ := by rw [List.length_map]; exact hj) hnd).1 (by rw [List.getElem_map, List.getElem_map]; exact hab)
    subst hij
    rfl
  · exact (List.pairwise_map.1 h).imp (fun h => List.le_of_lt h)
  · exact List.pairwise_map.1 h2
end


/-! Rows. -/
theorem over_take {cs p : List Value} {off m : Nat} (h : off + p.length ≤ m) (hm : m ≤ cs.length) : (over cs off p).take m = over (cs.take m) off p := by
  unfold over
  have h1 : (cs.take off ++ p).length = off + p.length := by rw [List.length_append, List.length_take]; omega
  rw [List.take_append, List.take_of_length_le (by omega), h1, List.take_take, Nat.min_eq_left (by omega), List.drop_take]
theorem flatten_len {sz : Nat} : ∀ (Cs : List (List Value)), (∀ c ∈ Cs, c.length = sz) → Cs.flatten.length = Cs.length * sz
  | [], _ => by simp
  | c :: Cs, h => by
    rw [List.flatten_cons, List.length_append, h c List.mem_cons_self, flatten_len Cs (fun x hx => h x (List.mem_cons_of_mem _ hx)), List.length_cons, Nat.succ_mul]
    omega
theorem flatten_set {sz : Nat} : ∀ (Cs : List (List Value)) (k : Nat) (p : List Value), (∀ c ∈ Cs, c.length = sz) → p.length = sz → k < Cs.length → (Cs.set k p).flatten = over Cs.flatten (sz * k) p
  | [], _, _, _, _, h => by simp at h
  | c :: Cs, 0, p, hs, hp, _ => by
    unfold over
    rw [List.set_cons_zero, List.flatten_cons, List.flatten_cons, Nat.mul_zero, List.take_zero, List.nil_append, Nat.zero_add, hp, List.drop_left' (hs c List.mem_cons_self)]
  | c :: Cs, k + 1, p, hs, hp, hk => by
    have hc := hs c List.mem_cons_self
    have ih := flatten_set Cs k p (fun x hx => hs x (List.mem_cons_of_mem _ hx)) hp (by simpa using hk)
    unfold over at *
    rw [List.set_cons_succ, List.flatten_cons, List.flatten_cons, ih, List.take_append, List.drop_append, hc, Nat.mul_succ, List.take_of_length_le (l := c) (by rw [hc]; omega), show List.drop (sz * k + sz + p.length) c = [] from List.drop_eq_nil_of_le (by rw [hc]; omega), List.nil_append,
      show sz * k + sz - sz = sz * k by omega, show sz * k + sz + p.length - sz = sz * k + p.length by omega, List.append_assoc, List.append_assoc, List.append_assoc]
/-- The block of a row with elements. -/
theorem rowX_open {w : World} {base : Nat} {e : TypeId} {sz : Nat} {v : Value} {Cs : List (List Value)} (h : RowX w base e sz v Cs) (hp : 0 < Cs.length) : ∃ g cap cs, v = .slice (some ⟨g, 0, none⟩) Cs.length cap ∧ base ≤ g ∧ CB w g e cs ∧ Cs.length ≤ cap ∧ cs.length = cap * sz ∧ cs.take (Cs.length * sz) = Cs.flatten ∧ cap ≤ maxLen := by
  obtain ⟨⟨_, h1 | ⟨g, cap, cur, rfl, hb, hh, hn, hm, hc, ht⟩⟩, hs⟩ := h
  · omega
  · exact ⟨g, cap, cur.toList, rfl, hb, hh, hn, by simpa using hc, ht, hm⟩
/-- One element is laid over. -/
theorem rowX_over {w w' : World} {base g cap : Nat} {e : TypeId} {sz k : Nat} {Cs : List (List Value)} {cs p : List Value} (h : RowX w base e sz (.slice (some ⟨g, 0, none⟩) Cs.length cap) Cs) (hk : k < Cs.length) (hp : p.length = sz) (hc : CB w g e cs) (hc' : CB w' g e (over cs (sz * k) p)) :
    RowX w' base e sz (.slice (some ⟨g, 0, none⟩) Cs.length cap) (Cs.set k p) := by
  obtain ⟨⟨hx, h1 | ⟨g', cap', cur, hv, hb, hh, hn, hm, hcz, ht⟩⟩, hs⟩ := h
  · cases h1.1
  · injection hv with hv1 hv2 hv3
    injection hv1 with hv1
    injection hv1 with hv1
    subst hv1 hv3
    have hce : cs = cur.toList := by
      have := hc.symm.trans hh
      injection this with this
      injection this with this
      rw [← this]
    subst hce
    have hle : sz * k + p.length ≤ Cs.length * sz := by rw [hp, ← Nat.mul_succ, Nat.mul_comm]; exact Nat.mul_le_mul_right _ hk
    have hq : cur.toList.length = cap * sz := by rw [← hcz]; rfl
    have hcz' : Cs.length * sz ≤ cur.toList.length := by rw [hq]; exact Nat.mul_le_mul_right _ hn
    refine ⟨⟨flatten_len _ (fun c hc => ?_), .inr ⟨g, cap, (over cur.toList (sz * k) p).toArray, by rw [List.length_set], hb, hc', by rw [List.length_set]; exact hn, hm, by rw [List.size_toArray, over_length _ _ _ (by omega)]; simpa using hcz, ?_⟩⟩, fun c hc => ?_⟩
    · rcases List.mem_or_eq_of_mem_set hc with hc | rfl
      · exact hs c hc
      · exact hp
    · rw [List.length_set, List.toList_toArray, over_take hle hcz', ht, flatten_set Cs k p hs hp hk]
    · rcases List.mem_or_eq_of_mem_set hc with hc | rfl
      · exact hs c hc
      · exact hp
/-- 'append(s, xs...)' of several structs. -/
theorem run_appXs {P : Program} {w : World} {t e : TypeId} {sz : Nat} (hT : RowT P t e sz) (ty : TypeId) {base : Nat} {v : Value} {Cs Ps : List (List Value)} {b off c : Nat} (hown : RowX w base e sz v Cs)
    (hc : ∀ k p, Ps[k]? = some p → ∀ j u, p[j]? = some u → w.cell? ⟨b, off + sz * k + j, none⟩ = some u) (hs : ∀ p ∈ Ps, p.length = sz) (h1 : ∀ p ∈ Ps, ∀ u ∈ p, u.oneCell' = true) (hlen : Cs.length + Ps.length ≤ 1000000000) (hbase : base ≤ w.heap.size) :
    ∃ v' w', (Builtin.append_ #[t, t] ty #[v, .slice (some ⟨b, off, none⟩) Ps.length c]).run P w = .ok v' w' ∧ RowX w' base e sz v' (Cs ++ Ps) ∧ w.grownBy w' v.ownBlock ∧ (v'.ownBlock = v.ownBlock ∨ v'.ownBlock = some w.heap.size) := by
  obtain ⟨i, z, hi, hz, hsz, hb, hzs⟩ := hT.hi
  obtain ⟨v', w', hrun, ho, hg, _, hat⟩ := run_append_own_at (P := P) (w := w) base t ty e i z sz i.bytes hT.ht hi hz hsz rfl hzs hT.pos v Cs.length Cs.flatten hown.1
    ⟨b, off, none⟩ Ps.length c Ps.flatten (flatten_len Ps hs) (fun j u hu => by
      rw [Addr.add_lit]
      have hj : j < Ps.length * sz := by rw [← flatten_len Ps hs]; exact (List.getElem?_eq_some_iff.1 hu).1
      have hp := hT.pos
      have hk : j / sz < Ps.length := Nat.div_lt_of_lt_mul (by rw [Nat.mul_comm]; exact hj)
      have hm : j % sz < sz := Nat.mod_lt _ hp
      have he : sz * (j / sz) + j % sz = j := Nat.div_add_mod j sz
      have h2 := flatten_at Ps (j / sz) _ (j % sz) hs (List.getElem?_eq_getElem hk) hm
      rw [he, hu] at h2
      have h3 := hc _ _ (List.getElem?_eq_getElem hk) (j % sz) u h2.symm
      rwa [show off + sz * (j / sz) + j % sz = off + j by omega] at h3) (fun u hu => by
      obtain ⟨p, hp, hu⟩ := List.mem_flatten.1 hu
      exact h1 p hp u hu) (by unfold maxLen; omega) (by
      have := Nat.mul_le_mul (show Cs.length + Ps.length ≤ 1000000000 by omega) hb
      omega) hbase
  refine ⟨v', w', hrun, ⟨by rw [List.length_append, List.flatten_append]; exact ho, fun x hx => ?_⟩, hg, hat⟩
  rcases List.mem_append.1 hx with hx | hx
  · exact hown.2 x hx
  · exact hs x hx
theorem wp_appXs {P : Program} {w : World} {o : Oper} {a : Act} {Q : Exit → Act → World → Prop} {K : Act → World → Prop} {t e : TypeId} {sz : Nat} (hT : RowT P t e sz) (s x : Operand)
    (ho : o.op = .call { callee := .builtin .append, args := #[s, x], argTypes := #[t, t] })
    {base : Nat} {v : Value} {Cs Ps : List (List Value)} {b off c n : Nat} (hown : RowX w base e sz v Cs) (hn : n = Ps.length)
    (hc : ∀ k p, Ps[k]? = some p → ∀ j u, p[j]? = some u → w.cell? ⟨b, off + sz * k + j, none⟩ = some u) (hs' : ∀ p ∈ Ps, p.length = sz) (h1 : ∀ p ∈ Ps, ∀ u ∈ p, u.oneCell' = true) (hs : a.eval s = v) (hx : a.eval x = .slice (some ⟨b, off, none⟩) n c) (hlen : Cs.length + Ps.length ≤ 1000000000) (hbase : base ≤ w.heap.size)
    (h : ∀ v' w', RowX w' base e sz v' (Cs ++ Ps) → w.grownBy w' v.ownBlock → (v'.ownBlock = v.ownBlock ∨ v'.ownBlock = some w.heap.size) → K (a.put o.dst v') w') : o.wp P a w K Q := by
  subst hn
  obtain ⟨v', w', hrun, h2, h3, h5⟩ := run_appXs (c := c) hT o.type hown hc hs' h1 hlen hbase
  unfold Oper.wp execOp
  simp only [ho, resolve, invoke, builtin, Sem.run_bind, Sem.run_pure, Result.andThen_ok, List.map_toArray, List.map_cons, List.map_nil, hs, hx]
  rw [hrun]
  exact h v' w' h2 h3 h5
end Go.Proofs.YtlkchajkhplapaaGreatDoor
