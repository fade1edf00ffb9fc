/- The walk of withData. -/
import Derived.Test.YtcfhpoigfkljpaaTla
namespace Go.Proofs.Ytcfhpoigfkljpaa
open Go.ChangeShapes Go.WideShapes Go.RowKit

section
variable {w : World} {b2 base : Nat} {v : Value} {vs : List Value} {ps : List Tl}
theorem ap_last {us : List Value} {u u' : Value} {w w' : World} (h : (us ++ [u]).Pairwise Ap) (hl : ∀ x ∈ us, ∀ g, x.ownBlock = some g → g < w.heap.size) (hn : u'.ownBlock = u.ownBlock ∨ u'.ownBlock = some w'.heap.size) (hs : w.heap.size ≤ w'.heap.size) : (us ++ [u']).Pairwise Ap := by
  obtain ⟨h1, -, h3⟩ := List.pairwise_append.1 h
  refine List.pairwise_append.2 ⟨h1, List.pairwise_singleton _ _, fun x hx y hy => ?_⟩
  rw [List.mem_singleton.1 hy]
  intro g hg e
  rcases hn with h | h
  · exact h3 x hx u (List.mem_singleton_self _) g hg (h ▸ e)
  · rw [e] at h; injection h with h; have := hl x hx g hg; omega
theorem heap_CB {g : Nat} {cs : Array Value} {t : TypeId} (h : w.heap[g]? = some (.cells cs t (0, 0))) : CB w g t cs.toList := by rw [CB, Array.toArray_toList]; exact h
theorem OwnP.blk (h : OwnP w b2 base vs v ps) {g : Nat} (hg : v.ownBlock = some g) : ∃ cs, CB w g 24 cs ∧ ps.length * 4 ≤ cs.length ∧ b2 ≤ g := by
  rcases h.row.2 with ⟨rfl, _⟩ | ⟨g', cap, cur, rfl, hb, hg', hc, hm, hz, ht⟩
  · simp [Value.ownBlock] at hg
  · have e : g' = g := by simpa [Value.ownBlock] using hg
    subst e
    exact ⟨_, heap_CB hg', by rw [show cur.toList.length = cap * 4 from (Array.length_toList).trans hz]; exact Nat.mul_le_mul_right 4 hc, hb⟩

/-- The data of the last part get one byte more. -/
theorem last_more {w1 w2 w3 : World} {us : List Value} {u u' : Value} {X : List Tl} {q : Tl} {c : UInt8} {g : Nat} {cs : List Value} (h : OwnP w b2 base (us ++ [u]) v (X ++ [q])) (hp : (us ++ [u]).Pairwise Ap) (hg : v.ownBlock = some g) (hc : CB w g 24 cs)
    (h1 : w.grownBy w1 none) (ho : OwnB w2 base 5 u' (q.data ++ [c])) (h2 : w1.grownBy w2 u.ownBlock) (ha : u'.ownBlock = u.ownBlock ∨ u'.ownBlock = some w1.heap.size) (h3 : CB w3 g 24 (cs.set (X.length * 4 + 3) u')) (hm : w2.grownBy w3 (some g)) :
    WR w w3 b2 base (us ++ [u]) v v (X ++ [{ q with data := q.data ++ [c] }]) := by
  have hs := h1.size
  have hu : u ∈ us ++ [u] := by simp
  have hgu : u.ownBlock ≠ some g := fun e => by
    obtain ⟨i, hi⟩ := List.mem_iff_getElem?.1 hu
    have hlt := (List.getElem?_eq_some_iff.1 hi).1
    exact (h.dat i _ u (List.getElem?_eq_getElem (by have := h.len; omega)) hi).ne_cells hc (by decide) e
  have m2 : Mod (fun k => u.ownBlock = some k) w w2 := (Mod.made h1).grown h2 (fun z hz _ => hz)
  have hc2 : CB w2 g 24 cs := hc.mod m2 hgu
  have hne : u'.ownBlock ≠ some g := fun e => ho.ne_cells hc2 (by decide) e
  have hap := List.pairwise_append.1 hp
  have hlen : us.length = X.length := by have := h.len; simpa using this
  have hX : OwnP w2 b2 base (us ++ [u']) v (X ++ [{ q with data := q.data ++ [c] }]) ∨ True := .inr trivial
  clear hX
  have hdat : ∀ (k : Nat) (t : Tl) (x : Value), k < X.length → (X ++ [q])[k]? = some t → (us ++ [u])[k]? = some x → OwnB w3 base 5 x t.data := by
    intro k t x hk ht hx
    have hxm : x ∈ us := by rw [List.getElem?_append_left (by omega)] at hx; exact List.mem_of_getElem? hx
    have h4 := h.dat k t x ht hx
    have h5 := h4.mod m2 (fun z hz e => hap.2.2 x hxm u (List.mem_singleton_self _) z hz e)
    exact h5.mod (Mod.of_grown hm) (fun z hz e => by injection e with e; subst e; exact h4.ne_cells hc (by decide) hz)
  refine ⟨us ++ [u'], ⟨by simp [hlen], ?_, fun k t x ht hx => ?_⟩, ap_last hp (fun x hx z hz => (h.dlt x (List.mem_append_left _ hx) z hz).2) ha hs, (m2.mono (fun k _ hk => .inr ⟨u, hu, hk⟩)).grown hm (fun z hz _ => by injection hz with hz; subst hz; exact .inl hg), Nw.refl _ _, fun x hx z hz => ?_⟩
  · refine ⟨by rw [tcells_length _ _ (by simp [hlen])], ?_⟩
    rcases h.row.2 with ⟨rfl, hl0⟩ | ⟨g', cap, cur, rfl, hb, hg', hcc, hmm, hz, ht⟩
    · simp at hl0
    · have e : g' = g := by simpa [Value.ownBlock] using hg
      subst e
      have hcur : cs.toArray = cur := by
        have e1 := (show w.heap[g']? = _ from hc).symm.trans hg'
        injection e1 with e1
        injection e1
      subst hcur
      refine .inr ⟨g', cap, (cs.set (X.length * 4 + 3) u').toArray, by simp, hb, h3, by simpa using hcc, hmm, by simpa using hz, ?_⟩
      simp only [List.length_append, List.length_cons, List.length_nil] at ht ⊢
      rw [← tcells_last X us hlen q _ u u', ← ht, List.take_set]
  · by_cases hk : k < X.length
    · rw [List.getElem?_append_left hk] at ht
      rw [List.getElem?_append_left (by omega)] at hx
      exact hdat k t x hk (by rw [List.getElem?_append_left hk]; exact ht) (by rw [List.getElem?_append_left (by omega)]; exact hx)
    · have hk' : k = X.length := by
        have := (List.getElem?_eq_some_iff.1 ht).1
        simp at this
        omega
      subst hk'
      rw [List.getElem?_append_right (Nat.le_refl _)] at ht
      rw [← hlen, List.getElem?_append_right (Nat.le_refl _)] at hx
      simp at ht hx
      subst ht hx
      exact ho.mod (Mod.of_grown hm) (fun z hz e => by injection e with e; subst e; exact hne hz)
  · rcases List.mem_append.1 hx with hx | hx
    · exact .inl ⟨x, List.mem_append_left _ hx, hz⟩
    · rw [List.mem_singleton.1 hx] at hz
      rcases ha with h | h
      · exact .inl ⟨u, hu, h ▸ hz⟩
      · rw [hz] at h; injection h with h; exact .inr (by omega)
/-- A call on rows that were made ready. -/
theorem WR.after {w1 w' : World} {u : Value} {v1 v' : Value} {ps' : List Tl} (h : OwnP w b2 base vs v ps) (hm : Mod (rowS v vs) w w1) (hn : Nw w v v1) (hu : u.ownBlock = none) (k : WR w1 w' b2 base (vs ++ [u]) v1 v' ps') : WR w w' b2 base vs v v' ps' := by
  obtain ⟨vs', h1, h2, h3, h4, h5⟩ := k
  have hs := hm.size
  have hlt := h.lt
  refine ⟨vs', h1, h2, hm.next h3 (fun i hi e => ?_), hn.trans h4 hs, fun x hx g hg => ?_⟩
  · rcases e with e | ⟨x, hx, e⟩
    · rcases hn i e with e | e
      · exact .inl e
      · omega
    · rcases List.mem_append.1 hx with hx | hx
      · exact .inr ⟨x, hx, e⟩
      · rw [List.mem_singleton.1 hx, hu] at e; cases e
  · rcases h5 x hx g hg with ⟨y, hy, e⟩ | e
    · rcases List.mem_append.1 hy with hy | hy
      · exact .inl ⟨y, hy, e⟩
      · rw [List.mem_singleton.1 hy, hu] at e; cases e
    · exact .inr (by omega)
set_option maxHeartbeats 2000000 in
/-- Behind data. -/
theorem withData_more {us : List Value} {u : Value} {X : List Tl} {q : Tl} (h : OwnP w b2 base (us ++ [u]) v (X ++ [q])) (hp : (us ++ [u]).Pairwise Ap) (hq : q.kind = 1) (hb : base ≤ w.heap.size) (hX : X.length ≤ 1000000) (hd : q.data.length ≤ 1000000000000) (c : UInt8) :
    Calls Try.prog 33 #[v, .int .u8 (c.toNat : Int)] w fun e w' => ∃ v', e = .returned v' ∧ WR w w' b2 base (us ++ [u]) v v' (X ++ [{ q with data := q.data ++ [c] }]) := by
  obtain ⟨A, cc, hv, -, h1, h2⟩ := h.shape
  obtain ⟨g, hg⟩ := h2 (by simp)
  obtain rfl := h1 g hg
  obtain ⟨m, hm⟩ : ∃ m, X.length = m := ⟨_, rfl⟩
  have hn : (X ++ [q]).length = m + 1 := by rw [← hm]; simp
  rw [hn] at hv
  subst hv
  obtain ⟨cs, hcs, hcl, hbg⟩ := h.blk hg
  have hus : us.length = X.length := by have := h.len; simpa using this
  have hu0 := h.dat X.length q u (by simp) (by rw [← hus]; simp)
  obtain ⟨U, uc, hu, -, -⟩ := hu0.shape
  obtain ⟨dn, hdn⟩ : ∃ x, q.data.length = x := ⟨_, rfl⟩
  rw [hdn] at hu hd
  obtain ⟨c0, -, -, c3⟩ := h.cells_at (k := X.length) (t := q) (u := u) (by simp) (by rw [← hus]; simp) hg
  rw [hm, hq] at c0
  rw [hm, hu] at c3
  have hmi : (m : Int) ≤ 1000000 := by omega
  have hm0 : (0 : Int) ≤ (m : Int) := by omega
  have hw : IntKind.i64.wrap ((m : Int) + 1 - 1) = (m : Int) := by simp [IntKind.wrap, IntKind.bits, IntKind.signed]; omega
  have H := Lib.hid h
  have HP := Lib.hid hp
  have HG := Lib.hid hg
  have HC := Lib.hid hcs
  have HM := Lib.hid hm
  have HU := Lib.hid hu0
  have HD := Lib.hid hdn
  have HUE := Lib.hid hu
  have HL := Lib.hid (show m * 4 + 4 ≤ cs.length by rw [hn] at hcl; omega)
  clear h hp hg hcs hm hn hu0 h1 h2 hdn hu hcl hbg hX hus hq
  go_enter Try.func33, Try.ntmps33
  go_wp2_with (first
    | (at_builtin
       refine wpList_appB byteT rfl (.tmp 32) (.tmp 34) rfl (OwnB.none_ (show OwnB w base 5 (.slice U dn uc) q.data by rw [← HUE.out]; exact HU.out) (grown_alloc _ _ none)) (rb1 _ _ c _ rfl) (by first | rfl | go_simp) (by first | rfl | go_simp) (by rw [HD.out]; simp; omega) (by rw [World.size_alloc]; omega) ?_
       intro v2 w2 o2 g2 _ a2
       have O2 := Lib.hid o2
       have G2 := Lib.hid g2
       have A2 := Lib.hid a2
       have C2 := Lib.hid ((HC.out.alloc _).mod (Mod.of_grown g2) (fun e => by have := HU.out.ne_cells HC.out (by decide) (g := g); rw [HUE.out] at this; exact this e.symm))
       clear o2 g2 a2)
    | (refine wpList_storeC (off := m * 4 + 3) (p := [v2]) szB rfl (.tmp 37) (.tmp 35) rfl v2 (by obtain ⟨_, _, hx, _⟩ := O2.out.shape; rw [hx]; rfl) (fun u hu => by rw [List.mem_singleton.1 hu]; obtain ⟨_, _, hx, _⟩ := O2.out.shape; rw [hx]; rfl) C2.out rfl (by have := HL.out; omega) (by first | rfl | go_simp) (by first | rfl | go_simp) ?_
       intro w3 h3 g3
       rw [over_one cs _ v2 (by have := HL.out; omega)] at h3
       have C3 := Lib.hid h3
       have G3 := Lib.hid g3
       clear h3 g3))
  go_ret
  have hu := HUE.out
  exact ⟨_, rfl, last_more H.out HP.out HG.out HC.out (grown_alloc _ _ none) O2.out (by rw [hu]; exact G2.out) (by rw [hu]; exact A2.out) (by rw [HM.out]; exact C3.out) G3.out⟩
set_option maxHeartbeats 2000000 in
/-- Behind nothing. -/
theorem withData_first (h : OwnP w b2 base vs v ps) (hp : vs.Pairwise Ap) (h0 : ps = []) (hb : base ≤ w.heap.size) (hb2 : b2 ≤ w.heap.size) (c : UInt8) :
    Calls Try.prog 33 #[v, .int .u8 (c.toNat : Int)] w fun e w' => ∃ v', e = .returned v' ∧ WR w w' b2 base vs v v' (ps ++ [⟨1, 0, 0, [c]⟩]) := by
  obtain ⟨A, cc, hv, -, -, -⟩ := h.shape
  obtain ⟨n, hn⟩ : ∃ n, ps.length = n := ⟨_, rfl⟩
  rw [hn] at hv
  subst hv
  have hn0 : n = 0 := by rw [← hn, h0]; rfl
  have hz : ((n : Int) == 0) = true := by rw [hn0]; rfl
  have hw : IntKind.i64.wrap ((n : Int) + 1 - 1) = (n : Int) := by simp [IntKind.wrap, IntKind.bits, IntKind.signed]; omega
  have hle : n ≤ 1000000 := by omega
  have HN := Lib.hid hn
  have H := Lib.hid h
  have HP := Lib.hid hp
  clear h hp hn h0 hn0
  go_enter Try.func33, Try.ntmps33
  go_wp2_with (first
    | (at_builtin
       obtain ⟨wa, hwa⟩ : ∃ wa, wa = w.alloc (.cells #[.int .i64 1, .int .i64 0, .int .i64 0, .slice none 0 0] 24) := ⟨_, rfl⟩
       have GA := Lib.hid (show w.grownBy wa none by rw [hwa]; exact grown_alloc _ _ _)
       have NA := Lib.hid (show CB wa w.heap.size 24 [.int .i64 1, .int .i64 0, .int .i64 0, .slice none 0 0] by rw [hwa]; exact CB.new _ _ _)
       rw [← hwa]
       clear hwa
       refine wpList_appP rfl (.tmp 19) (.tmp 21) rfl (t := ⟨1, 0, 0, []⟩) (u := .slice none 0 0) (ad := ⟨w.heap.size, 0, none⟩) (c := 1) (H.out.none_ GA.out) (OwnB.nil_ _ _ _) (NA.out.at_ rfl) (NA.out.at_ rfl) (NA.out.at_ rfl) (NA.out.at_ rfl) (by first | rfl | go_simp) (by first | rfl | go_simp) (by rw [HN.out]; omega) (by have := GA.out.size; omega) ?_
       intro v1 w1 o1 g1 a1
       obtain ⟨A1, c1, hv1, -, h1, h2⟩ := o1.shape
       obtain ⟨q1, hq1⟩ := h2 (by simp)
       obtain rfl := h1 q1 hq1
       rw [show (ps ++ [(⟨1, 0, 0, []⟩ : Tl)]).length = n + 1 by rw [List.length_append, HN.out]; rfl] at hv1
       subst hv1
       obtain ⟨cs, hcs, hcl, hbg⟩ := o1.blk hq1
       have e3 : w1.cell? ⟨q1, n * 4 + 3, none⟩ = some (.slice none 0 0) := (o1.cells_at (k := n) (t := ⟨1, 0, 0, []⟩) (u := .slice none 0 0) (by rw [← HN.out]; simp) (by rw [← HN.out, ← H.out.len]; simp) hq1).2.2.2
       have HL := Lib.hid (show n * 4 + 4 ≤ cs.length by rw [List.length_append, HN.out] at hcl; simp at hcl; omega)
       have HQ := Lib.hid hq1
       have HC := Lib.hid hcs
       have P1 := Lib.hid o1
       have G1 := Lib.hid g1
       have A1 := Lib.hid a1
       clear o1 g1 a1 h1 h2 hq1 hcs hcl hbg)
    | (at_builtin
       refine wpList_appB byteT rfl (.tmp 32) (.tmp 34) rfl (OwnB.nil_ _ base _) (rb1 _ _ c _ rfl) (by first | rfl | go_simp) (by first | rfl | go_simp) (by simp) (by rw [World.size_alloc]; have := G1.out.size; have := GA.out.size; omega) ?_
       intro v2 w2 o2 g2 _ a2
       have O2 := Lib.hid o2
       have G2 := Lib.hid g2
       have A2 := Lib.hid a2
       have C2 := Lib.hid ((HC.out.alloc _).mod (Mod.of_grown g2) (fun e => by cases e))
       clear o2 g2 a2)
    | (refine wpList_storeC (off := n * 4 + 3) (p := [v2]) szB rfl (.tmp 37) (.tmp 35) rfl v2 (by obtain ⟨_, _, hx, _⟩ := O2.out.shape; rw [hx]; rfl) (fun u hu => by rw [List.mem_singleton.1 hu]; obtain ⟨_, _, hx, _⟩ := O2.out.shape; rw [hx]; rfl) C2.out rfl (by have := HL.out; omega) (by first | rfl | go_simp) (by first | rfl | go_simp) ?_
       intro w3 h3 g3
       rw [over_one cs _ v2 (by have := HL.out; omega)] at h3
       have C3 := Lib.hid h3
       have G3 := Lib.hid g3
       clear h3 g3))
  go_ret
  have hs := GA.out.size
  refine ⟨_, rfl, WR.after (u := .slice none 0 0) H.out ((Mod.made GA.out).grown G1.out (fun z hz _ => .inl hz)) (Nw.of A1.out hs) rfl (last_more (X := ps) P1.out ?_ HQ.out HC.out (grown_alloc _ _ none) O2.out G2.out A2.out (by rw [HN.out]; exact C3.out) G3.out)⟩
  exact List.pairwise_append.2 ⟨HP.out, List.pairwise_singleton _ _, fun x _ y hy => by rw [List.mem_singleton.1 hy]; exact ap_nil _ _ _⟩
set_option maxHeartbeats 2000000 in
/-- Behind another part. -/
theorem withData_other (h : OwnP w b2 base vs v ps) (hp : vs.Pairwise Ap) {q : Tl} (h0 : ps.getLast? = some q) (hq : q.kind ≠ 1) (hX : ps.length ≤ 1000000) (hb : base ≤ w.heap.size) (hb2 : b2 ≤ w.heap.size) (c : UInt8) :
    Calls Try.prog 33 #[v, .int .u8 (c.toNat : Int)] w fun e w' => ∃ v', e = .returned v' ∧ WR w w' b2 base vs v v' (ps ++ [⟨1, 0, 0, [c]⟩]) := by
  obtain ⟨X, hXq⟩ := List.getLast?_eq_some_iff.1 h0
  obtain ⟨A, cc, hv, -, h1, h2⟩ := h.shape
  obtain ⟨g, hg⟩ := h2 (by rw [hXq]; simp)
  obtain rfl := h1 g hg
  obtain ⟨n, hn⟩ : ∃ n, ps.length = n := ⟨_, rfl⟩
  obtain ⟨m, hm⟩ : ∃ m, X.length = m := ⟨_, rfl⟩
  rw [hn] at hv hX
  subst hv
  have hnm : n = m + 1 := by rw [← hn, hXq, List.length_append, hm]; rfl
  obtain ⟨u, hu⟩ : ∃ u, vs[m]? = some u := ⟨_, List.getElem?_eq_getElem (by rw [h.len, hn]; omega)⟩
  obtain ⟨c0, -, -, -⟩ := h.cells_at (k := m) (t := q) (u := u) (by rw [hXq, ← hm]; simp) hu hg
  have hz : ((n : Int) == 0) = false := by rw [beq_eq_false_iff_ne]; omega
  have hm0 : (0 : Int) ≤ (m : Int) := by omega
  have hlt : (m : Int) < (n : Int) := by omega
  have hw1 : IntKind.i64.wrap ((n : Int) - 1) = (m : Int) := by simp [IntKind.wrap, IntKind.bits, IntKind.signed]; omega
  have hw : IntKind.i64.wrap ((n : Int) + 1 - 1) = (n : Int) := by simp [IntKind.wrap, IntKind.bits, IntKind.signed]; omega
  have hkk : (q.kind == 1) = false := by rw [beq_eq_false_iff_ne]; exact hq
  have HN := Lib.hid hn
  have H := Lib.hid h
  have HP := Lib.hid hp
  clear h hp hn h0 h1 h2 hXq hm hnm hu hq hg
  generalize q.kind = qk at *
  go_enter Try.func33, Try.ntmps33
  go_wp2_with (first
    | (at_builtin
       obtain ⟨wa, hwa⟩ : ∃ wa, wa = w.alloc (.cells #[.int .i64 1, .int .i64 0, .int .i64 0, .slice none 0 0] 24) := ⟨_, rfl⟩
       have GA := Lib.hid (show w.grownBy wa none by rw [hwa]; exact grown_alloc _ _ _)
       have NA := Lib.hid (show CB wa w.heap.size 24 [.int .i64 1, .int .i64 0, .int .i64 0, .slice none 0 0] by rw [hwa]; exact CB.new _ _ _)
       rw [← hwa]
       clear hwa
       refine wpList_appP rfl (.tmp 19) (.tmp 21) rfl (t := ⟨1, 0, 0, []⟩) (u := .slice none 0 0) (ad := ⟨w.heap.size, 0, none⟩) (c := 1) (H.out.none_ GA.out) (OwnB.nil_ _ _ _) (NA.out.at_ rfl) (NA.out.at_ rfl) (NA.out.at_ rfl) (NA.out.at_ rfl) (by first | rfl | go_simp) (by first | rfl | go_simp) (by rw [HN.out]; omega) (by have := GA.out.size; omega) ?_
       intro v1 w1 o1 g1 a1
       obtain ⟨A1, c1, hv1, -, h1, h2⟩ := o1.shape
       obtain ⟨q1, hq1⟩ := h2 (by simp)
       obtain rfl := h1 q1 hq1
       rw [show (ps ++ [(⟨1, 0, 0, []⟩ : Tl)]).length = n + 1 by rw [List.length_append, HN.out]; rfl] at hv1
       subst hv1
       obtain ⟨cs, hcs, hcl, hbg⟩ := o1.blk hq1
       have e3 : w1.cell? ⟨q1, n * 4 + 3, none⟩ = some (.slice none 0 0) := (o1.cells_at (k := n) (t := ⟨1, 0, 0, []⟩) (u := .slice none 0 0) (by rw [← HN.out]; simp) (by rw [← HN.out, ← H.out.len]; simp) hq1).2.2.2
       have HL := Lib.hid (show n * 4 + 4 ≤ cs.length by rw [List.length_append, HN.out] at hcl; simp at hcl; omega)
       have HQ := Lib.hid hq1
       have HC := Lib.hid hcs
       have P1 := Lib.hid o1
       have G1 := Lib.hid g1
       have A1 := Lib.hid a1
       clear o1 g1 a1 h1 h2 hq1 hcs hcl hbg)
    | (at_builtin
       refine wpList_appB byteT rfl (.tmp 32) (.tmp 34) rfl (OwnB.nil_ _ base _) (rb1 _ _ c _ rfl) (by first | rfl | go_simp) (by first | rfl | go_simp) (by simp) (by rw [World.size_alloc]; have := G1.out.size; have := GA.out.size; omega) ?_
       intro v2 w2 o2 g2 _ a2
       have O2 := Lib.hid o2
       have G2 := Lib.hid g2
       have A2 := Lib.hid a2
       have C2 := Lib.hid ((HC.out.alloc _).mod (Mod.of_grown g2) (fun e => by cases e))
       clear o2 g2 a2)
    | (refine wpList_storeC (off := n * 4 + 3) (p := [v2]) szB rfl (.tmp 37) (.tmp 35) rfl v2 (by obtain ⟨_, _, hx, _⟩ := O2.out.shape; rw [hx]; rfl) (fun u hu => by rw [List.mem_singleton.1 hu]; obtain ⟨_, _, hx, _⟩ := O2.out.shape; rw [hx]; rfl) C2.out rfl (by have := HL.out; omega) (by first | rfl | go_simp) (by first | rfl | go_simp) ?_
       intro w3 h3 g3
       rw [over_one cs _ v2 (by have := HL.out; omega)] at h3
       have C3 := Lib.hid h3
       have G3 := Lib.hid g3
       clear h3 g3))
  go_ret
  have hs := GA.out.size
  refine ⟨_, rfl, WR.after (u := .slice none 0 0) H.out ((Mod.made GA.out).grown G1.out (fun z hz _ => .inl hz)) (Nw.of A1.out hs) rfl (last_more (X := ps) P1.out ?_ HQ.out HC.out (grown_alloc _ _ none) O2.out G2.out A2.out (by rw [HN.out]; exact C3.out) G3.out)⟩
  exact List.pairwise_append.2 ⟨HP.out, List.pairwise_singleton _ _, fun x _ y hy => by rw [List.mem_singleton.1 hy]; exact ap_nil _ _ _⟩

theorem withData_any (h : OwnP w b2 base vs v ps) (hp : vs.Pairwise Ap) (hX : ps.length ≤ 1000000) (hD : ∀ q ∈ ps, q.data.length ≤ 1000000000000) (hb : base ≤ w.heap.size) (hb2 : b2 ≤ w.heap.size) (c : UInt8) :
    Calls Try.prog 33 #[v, .int .u8 (c.toNat : Int)] w fun e w' => ∃ v', e = .returned v' ∧ WR w w' b2 base vs v v' (join ps ⟨1, 0, 0, [c]⟩) := by
  cases hl : ps.getLast? with
  | none =>
    have h0 : ps = [] := List.getLast?_eq_none_iff.1 hl
    have hj : join ps ⟨1, 0, 0, [c]⟩ = ps ++ [⟨1, 0, 0, [c]⟩] := by unfold join; rw [if_neg (by rw [hl]; simp)]
    rw [hj]
    exact withData_first h hp h0 hb hb2 c
  | some q =>
    by_cases hq : q.kind = 1
    · obtain ⟨X, rfl⟩ := List.getLast?_eq_some_iff.1 hl
      have hj : join (X ++ [q]) ⟨1, 0, 0, [c]⟩ = X ++ [{ q with data := q.data ++ [c] }] := by unfold join; simp [hq]
      obtain ⟨us, u, rfl⟩ : ∃ us u, vs = us ++ [u] := ⟨vs.dropLast, vs.getLast (by intro e; have := h.len; rw [e] at this; simp at this), (List.dropLast_concat_getLast _).symm⟩
      rw [hj]
      exact withData_more h hp hq hb (by rw [List.length_append] at hX; omega) (hD q (by simp)) c
    · have hj : join ps ⟨1, 0, 0, [c]⟩ = ps ++ [⟨1, 0, 0, [c]⟩] := by unfold join; rw [if_neg (by rw [hl]; simp [hq])]
      rw [hj]
      exact withData_other h hp hl hq hX hb hb2 c
end
end Go.Proofs.Ytcfhpoigfkljpaa
