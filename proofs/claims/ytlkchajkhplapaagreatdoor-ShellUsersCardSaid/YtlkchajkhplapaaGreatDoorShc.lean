/- The program's Words. -/
import Derived.Test.YtlkchajkhplapaaGreatDoorShb
namespace Go.Proofs.YtlkchajkhplapaaGreatDoor
open Go.RowKit Go.Shelf Go.Maps Go.WideMaps
attribute [local go_sem] Oper.semAt_some

theorem wpIn_appX {F : Fence} {n : Nat} {P : Program} {o : Oper} {a : Act} {w : World} {Q : Exit → Act → World → Prop} {K : Act → World → Prop} {t e : TypeId} {sz : Nat} (hT : RowT P t e sz) (s x : Operand)
    (ho : o.op = .call { callee := .builtin .append, args := #[s, x], argTypes := #[t, t] })
    {base : Nat} {v : Value} {Cs : List (List Value)} {p : List Value} {b off c : Nat} (hown : RowX w base e sz v Cs)
    (hc : ∀ j u, p[j]? = some u → w.cell? ⟨b, off + j, none⟩ = some u) (hp : p.length = sz) (h1 : ∀ u ∈ p, u.oneCell' = true) (hs : a.eval s = v) (hx : a.eval x = .slice (some ⟨b, off, none⟩) 1 c) (hlen : Cs.length ≤ 1000000000) (hbase : base ≤ w.heap.size)
    (h : ∀ v' w', RowX w' base e sz v' (Cs ++ [p]) → w.grownBy w' v.ownBlock → K (a.put o.dst v') w') : o.wpIn F n P a w K Q := by
  obtain ⟨v', w', hrun, h2, h3, -⟩ := run_appX (c := c) hT o.type hown hc hp h1 hlen hbase
  unfold Oper.wpIn
  refine ⟨?_, ?_⟩
  · simp [Oper.about, ho, resolve, Target.leads, Sem.run_pure]
  · rw [Oper.semAt_plain F _ _ (by rw [ho]; intro c hc'; cases hc')]
    simp [execOp, ho, resolve, invoke, builtin, hs, hx, hrun, Result.andThen]
    exact h v' w' h2 h3

/-- The state of the loop: the box holds the words of the pieces that came; the record; nothing deferred. -/
structure Sw (w0 : World) (R0 D : Nat) (o : Loop) (pre : List (List UInt8)) (W : World) : Prop where
  gr : w0.grownBy W none
  res : ∃ v, W.heap[R0]? = some (.cells #[v] 47 (0, 0)) ∧ RowX W (D + 2) 9 1 v ((wds pre).map fun x => [kS x])
  rc : W.heap[D + 1]? = some (.loop o)
  df : W.heap[D]? = some (.deferred (some []))
theorem Sw.set {w0 W : World} {R0 D : Nat} {o : Loop} {pre : List (List UInt8)} (h : Sw w0 R0 D o pre W) {b : Nat} (hb : w0.heap.size ≤ b) (h1 : R0 ≠ b) (h2 : b < D) (u : Value) : Sw w0 R0 D o pre (W.setCell ⟨b, 0, none⟩ u) := by
  obtain ⟨gr, ⟨v, hv, hr⟩, rc, df⟩ := h
  exact ⟨none_rowB gr (grownC_set W b 0 u) (fun g e => by cases e; exact hb), ⟨v, (Below.heap_setCell W ⟨b, 0, none⟩ _ R0 h1).trans hv, hr.row (grownC_set W b 0 u) (fun e => by have := (hr.lt b e).1; omega)⟩, (Below.heap_setCell W ⟨b, 0, none⟩ _ (D + 1) (by show D + 1 ≠ b; omega)).trans rc, (Below.heap_setCell W ⟨b, 0, none⟩ _ D (by show D ≠ b; omega)).trans df⟩
theorem Sw.put {w0 W : World} {R0 D : Nat} {o : Loop} {pre : List (List UInt8)} (h : Sw w0 R0 D o pre W) (hB : w0.heap.size ≤ R0) (h1 : R0 < D) (o' : Loop) : Sw w0 R0 D o' pre (W.putObj (D + 1) (.loop o')) := by
  obtain ⟨gr, ⟨v, hv, hr⟩, rc, df⟩ := h
  have hl := (Array.getElem?_eq_some_iff.1 rc).1
  exact ⟨none_rowB gr (grownBy_putObj' W (D + 1) _) (fun g e => by cases e; omega), ⟨v, (World.putObj_heap_other (by omega)).trans hv, hr.row (grownBy_putObj' W (D + 1) _) (fun e => by have := (hr.lt (D + 1) e).1; omega)⟩, World.putObj_heap_same hl, (World.putObj_heap_other (by omega)).trans df⟩

theorem heap_in {A B : World} (h : A.grownBy B none) {i : Nat} {o : Obj} (hi : A.heap[i]? = some o) : B.heap[i]? = some o :=
  (h.block i (Array.getElem?_eq_some_iff.1 hi).1 (by simp)).trans hi
theorem heap_inr {A B : World} {r : Option Nat} (h : A.grownBy B r) {i : Nat} {o : Obj} (hi : A.heap[i]? = some o) (hr : ∀ g, r = some g → g ≠ i) : B.heap[i]? = some o :=
  (h.block i (Array.getElem?_eq_some_iff.1 hi).1 (fun e => hr i e.symm rfl)).trans hi
structure BoxAt (A : World) (R0 D : Nat) (v : Value) (Cs : List (List Value)) : Prop where
  box : A.heap[R0]? = some (.cells #[v] 47 (0, 0))
  row : RowX A (D + 2) 9 1 v Cs
  big : D + 2 ≤ A.heap.size
theorem BoxAt.alloc {A : World} {R0 D : Nat} {v : Value} {Cs : List (List Value)} (h : BoxAt A R0 D v Cs) (o : Obj) : BoxAt (A.alloc o) R0 D v Cs :=
  ⟨heap_in (grown_alloc A o none) h.box, h.row.none (grown_alloc A o none), by rw [World.size_alloc]; have := h.big; omega⟩

/-- What an append to the box's row leaves as it was. -/
theorem box_on {w W2 A1 A3 : World} {D : Nat} {oB : Loop} {pre : List (List UInt8)} {x s1 : ByteArray} {v0 : Value} (hS : Sw w w.heap.size D oB pre W2) (hC : CapB W2 (w.heap.size + 1 + 1) (w.heap.size + 1) (w.heap.size + 1 + 2) s1)
    (hv : W2.heap[w.heap.size]? = some (.cells #[v0] 47 (0, 0))) (hr : RowX W2 (D + 2) 9 1 v0 ((wds pre).map fun x => [kS x])) (hz : D = w.heap.size + 4)
    (hA : W2.drew.grownBy A1 none) (hg : (A1.alloc (.cells #[.string x] 9)).grownBy A3 v0.ownBlock) :
    A3.heap[w.heap.size]? = some (.cells #[v0] 47 (0, 0)) ∧ A3.heap[D + 1]? = some (.loop oB) ∧ A3.heap[D]? = some (.deferred (some [])) ∧ w.grownBy A3 none ∧ CapB A3 (w.heap.size + 1 + 1) (w.heap.size + 1) (w.heap.size + 1 + 2) s1 := by
  have hb : ∀ g, v0.ownBlock = some g → D + 2 ≤ g := fun g e => (hr.lt g e).1
  have on : ∀ {i : Nat} {o : Obj}, i < D + 2 → W2.heap[i]? = some o → A3.heap[i]? = some o := fun hi ho =>
    heap_inr hg (heap_in (grown_alloc A1 _ none) (heap_in hA ho)) (fun g e => by have := hb g e; omega)
  refine ⟨on (by omega) hv, on (by omega) hS.rc, on (by omega) hS.df, ?_, ⟨on (by omega) hC.sep, on (by omega) hC.left, on (by omega) hC.save⟩⟩
  exact none_rowB (grown_trans' (show w.grownBy W2.drew none from grown_drew hS.gr) (grown_trans' hA (grown_alloc A1 _ none))) hg (fun g e => by have := hb g e; omega)

set_option maxRecDepth 100000 in
set_option maxHeartbeats 4000000 in
theorem words_any (w : World) (s : ByteArray) (l : List UInt8) (hl : s.data.toList = l) (hs : l.length ≤ 100000) :
    Calls Tryz.prog 31 #[.string s] w fun e w' => ∃ v, e = .returned v ∧ RowX w' w.heap.size 9 1 v ((wds (pieces1 32 l)).map fun x => [kS x]) ∧ w.grownBy w' none := by
  refine (callsIn_wide (n := 9)).1 ?_
  refine callsIn_of_wp_marks Tryz.func31 rfl trivial ?_ rfl
  simp only [Tryz.ntmps31, List.size_toArray, List.length_cons, List.length_nil, Nat.reduceAdd, Nat.reduceSub, Array.replicate_succ, Array.replicate_zero, List.push_toArray, List.append_toArray, List.nil_append, List.cons_append]
  have hsz : s.size ≤ 100000 := by have : s.size = l.length := by rw [← hl]; rfl
                                   omega
  have HC0 := Lib.hid (World.alloc_heap_new w (.cells #[.slice none 0 0] 47))
  have HL := Lib.hid hl
  clear hl hs
  gi_wp2_with (refine ⟨trivial, ?_⟩; gi_at_call 75; refine (callsIn_wide.2 (SplitSeqB_any _ s)).mono ?_; rintro e w1 ⟨rfl, hw1⟩)
  rw [← hw1]
  have hz1 : w1.heap.size = w.heap.size + 4 := by rw [hw1]; simp [capWB]
  have hcap : CapB w1 (w.heap.size + 1 + 1) (w.heap.size + 1) (w.heap.size + 1 + 2) s := by
    have := CapB.of_new (w.alloc (.cells #[.slice none 0 0] 47)) s
    rw [World.size_alloc] at this
    rw [hw1]; exact this
  have hb1 : w.grownBy w1 none := by
    rw [hw1]
    exact grown_trans' (grown_alloc _ _ _) (grown_trans' (grown_alloc _ _ _) (grown_trans' (grown_alloc _ _ _) (grown_alloc _ _ _)))
  have hres : w1.heap[w.heap.size]? = some (.cells #[.slice none 0 0] 47 (0, 0)) := by
    rw [hw1, capWB]
    exact (Below.heap_alloc _ _ _ (by simp; omega)).trans ((Below.heap_alloc _ _ _ (by simp; omega)).trans ((Below.heap_alloc _ _ _ (by simp)).trans HC0.out))
  clear hw1
  refine wpIn_rangeFunc_rec rfl (enters_of Tryz.func113 (by kernel_rfl) rfl) ?_
  intro fn o ho
  have hor : o.state = .ready := by rw [ho]
  have hope : o.pending = none := by rw [ho]
  have hop := congrArg Loop.params ho
  have hot := congrArg Loop.tmps ho
  have hoa := congrArg Loop.assign ho
  have hob := congrArg Loop.body ho
  dsimp only at hop hot hoa hob
  clear ho
  obtain ⟨D, hD⟩ : ∃ D, D = w1.heap.size := ⟨_, rfl⟩
  have hSt0 : Sw w w.heap.size D o [] ((w1.alloc (.deferred (some []))).alloc (.loop o)) := by
    have d1 := World.alloc_heap_new w1 (.deferred (some []))
    have d2 := World.alloc_heap_new (w1.alloc (.deferred (some []))) (.loop o)
    rw [World.size_alloc] at d2
    subst hD
    exact ⟨grown_trans' hb1 (grown_trans' (grown_alloc _ _ _) (grown_alloc _ _ _)), ⟨_, (Below.heap_alloc _ _ _ (by simp; omega)).trans ((Below.heap_alloc _ _ _ (by omega)).trans hres), RowX.nil_ _ _ _ _⟩, d2, (Below.heap_alloc _ _ _ (by simp)).trans d1⟩
  have hcap1 : CapB ((w1.alloc (.deferred (some []))).alloc (.loop o)) (w.heap.size + 1 + 1) (w.heap.size + 1) (w.heap.size + 1 + 2) s :=
    ⟨(Below.heap_alloc _ _ _ (by simp; omega)).trans ((Below.heap_alloc _ _ _ (by omega)).trans hcap.sep), (Below.heap_alloc _ _ _ (by simp; omega)).trans ((Below.heap_alloc _ _ _ (by omega)).trans hcap.left), (Below.heap_alloc _ _ _ (by simp; omega)).trans ((Below.heap_alloc _ _ _ (by omega)).trans hcap.save)⟩
  rw [← hD] at hz1 ⊢
  clear hD
  obtain ⟨oB, hoB⟩ : ∃ oB : Loop, oB = { o with state := .busy } := ⟨_, rfl⟩
  have hBo : { oB with state := .ready, pending := none } = o := by
    subst hoB
    cases o
    simp at hor hope
    subst hor hope
    rfl
  refine (seq1B_any (9 - 1) (D + 1) (w.heap.size + 1 + 1) (w.heap.size + 1) (w.heap.size + 1 + 2) s (by omega) (by omega) (show s.size ≤ 1000000 by omega) (by omega)
    (fun pre W => Sw w w.heap.size D o pre W)
    (fun _ _ => False)
    (fun pre W u h => h.set (by omega) (by omega) (by omega) _) ?_ _ hcap1 hSt0).mono ?_
  · rintro pre x W s1 hS hC hx hpre
    have hy := run_yield (P := Tryz.prog) (args := #[.string x]) hS.rc (by rw [hop]; rfl)
    refine ⟨o.fn, _, o.assign, o.body, hy, roundIn_of_wpIn trivial ?_⟩
    clear hy
    rw [hop, hot, hoa, hob]
    have hS2 := hS.put (by omega) (by omega) oB
    have hC2 := hC.put (l := D + 1) (by omega) (by omega) (by omega) (.loop oB)
    have hbeg := run_beginRound (P := Tryz.prog) hS.rc hor
    rw [← hoB] at hbeg
    obtain ⟨W2, hW2⟩ : ∃ W2, W2 = W.putObj (D + 1) (.loop oB) := ⟨_, rfl⟩
    rw [← hW2] at hS2 hC2 hbeg
    have HZ := Lib.hid hz1
    have HS2 := Lib.hid hS2
    have HC2 := Lib.hid hC2
    have HE := Lib.hid hBo
    have HB := Lib.hid (show ((wds pre).map fun x => [kS x]).length ≤ 1000000000 by
      have h1 := hpre.length_le
      have h2 := pieces_len 32 s.data.toList
      have h3 := wds_len pre
      rw [List.length_append] at h1
      rw [List.length_map]
      have h4 : s.data.toList.length = s.size := rfl
      omega)
    have hmo : Tryz.prog.follows .mixedOrders = true := by kernel_rfl
    clear hz1 hW2 hS hC hcap hcap1 hSt0 hb1 hres hop hot hoa hob hoB hor hope hBo hpre hS2 hC2
    by_cases hx0 : x = ⟨#[]⟩
    · subst hx0
      gi_wp2
      refine ⟨W2, hbeg, ?_⟩
      gi_wp2
      have hz := HZ.out
      have he := run_endRound (P := Tryz.prog) none HS2.out.rc
      have hB := HE.out
      simp only [Option.isNone_none, if_true] at he
      rw [hB] at he
      have hp := HS2.out.put (by omega) (by omega) o
      exact ⟨_, _, he, .inl ⟨rfl, ⟨hp.gr, by rw [show wds (pre ++ [(ByteArray.mk #[]).data.toList]) = wds pre from by rw [wds_snoc]; exact if_pos rfl]; exact hp.res, hp.rc, hp.df⟩, HC2.out.put (by omega) (by omega) (by omega) _⟩⟩
    · have n1 := str_ne hx0
      have n3 : x.toList.isEmpty = false := by
        rw [ByteArray.toList_eq]
        cases hq : x.data.toList with
        | nil => exact absurd (bytes_of hq) hx0
        | cons a t => rfl
      gi_wp2
      refine ⟨W2, hbeg, ?_⟩
      gi_wp2
      have HWD := Lib.hid (show wds (pre ++ [x.data.toList]) = wds pre ++ [x.data.toList] by rw [wds_snoc]; exact if_neg (fun e => hx0 (bytes_of e)))
      clear n1 n3 hbeg
      obtain ⟨v0, hv0, hr0⟩ := HS2.out.res
      have c0 : W2.drew.cell? ⟨w.heap.size, 0, none⟩ = some v0 := (cell_box hv0).1
      have HV := Lib.hid (fun (A : World) (hA : W2.drew.grownBy A none) => (⟨heap_in hA hv0, (show RowX W2.drew (D + 2) 9 1 v0 ((wds pre).map fun x => [kS x]) from hr0).none hA, Nat.le_trans (show D + 2 ≤ W2.heap.size by have := (Array.getElem?_eq_some_iff.1 HS2.out.rc).1; omega) hA.size⟩ : BoxAt A w.heap.size D v0 ((wds pre).map fun x => [kS x])))
      have HV3 := Lib.hid (fun (A1 A3 : World) (hA : W2.drew.grownBy A1 none) (hg : (A1.alloc (.cells #[.string x] 9)).grownBy A3 v0.ownBlock) => box_on (x := x) HS2.out HC2.out hv0 hr0 HZ.out hA hg)
      clear hv0 hr0
      refine wpIn_region_any hmo ?_
      change wpAnyIn _ _ _ _ _ _ _ _ _ (World.drew _)
      refine wpAnyIn_ready (rs := [0, 1]) (by kernel_rfl) (by simp) ?_
      refine AllReadyIn.cons rfl (fun K hK => ?_) ?_
      · go_simp
        refine hK _ _ ?_
        clear hK K
        refine wpAnyIn_ready (rs := [1]) (by kernel_rfl) (by simp) ?_
        refine AllReadyIn.cons rfl (fun K hK => ?_) ?_
        · go_simp
          refine hK _ _ ?_
          clear hK K
          refine wpAnyIn_ready (rs := [2]) (by kernel_rfl) (by simp) ?_
          refine AllReadyIn.cons rfl (fun K hK => ?_) ?_
          · go_simp
            gi_wp2_with (refine ⟨trivial, ?_⟩; gi_at_call 59; refine (CallsIn.inRound _ (callsIn_wide.2 (clone_any x _ hx))).mono ?_; rintro e A1 ⟨rfl, hb1⟩)
            have hA1 := none_of_below hb1 (Nat.le_refl _)
            have hx1 := HV.out A1 hA1
            have hx2 := hx1.alloc (.cells #[.string x] 9)
            have c1 := (cell_box hx1.box).1
            have c2 := (cell_box hx2.box).1
            clear hb1
            refine wpAnyIn_ready (rs := [3]) (by kernel_rfl) (by simp) ?_
            refine AllReadyIn.cons rfl (fun K hK => ?_) ?_
            · go_simp
              refine hK _ _ ?_
              clear hK K
              refine wpAnyIn_ready (rs := [4]) (by kernel_rfl) (by simp) ?_
              refine AllReadyIn.cons rfl (fun K hK => ?_) ?_
              · rw [if_pos (by kernel_rfl)]
                refine wpIn_appX rowS (.tmp 10) (.tmp 13) rfl (p := [.string x]) (b := A1.heap.size) (off := 0) (c := 1) hx2.row (fun j v hj => by have := (CB.new A1 9 [.string x]).at_ hj; rwa [Nat.zero_add]) rfl (by simp [Value.oneCell']) (by first | rfl | go_simp) (by first | rfl | go_simp) HB.out hx2.big ?_
                intro v' A3 h5 g5
                obtain ⟨AA, cp, hv9, -⟩ := h5.shape
                generalize List.length _ = nn at hv9
                subst hv9
                obtain ⟨hbx, hrc3, hdf3, hgr3, hcap3⟩ := HV3.out A1 A3 hA1 g5
                have HR3 := Lib.hid h5
                have c3 := cell_box hbx
                clear c0 c1 c2 hx1 hx2
                refine hK _ _ ?_
                clear hK K
                refine wpAnyIn_ready (rs := [5]) (by kernel_rfl) (by simp) ?_
                refine AllReadyIn.cons rfl (fun K hK => ?_) ?_
                · go_simp
                  refine hK _ _ ?_
                  clear hK K
                  refine wpAnyIn_done (by kernel_rfl) ?_ _
                  have hz := HZ.out
                  have hbx4 := heap_setCell1 (u := .slice AA nn cp) hbx
                  have hg4 := grownC_set A3 w.heap.size 0 (.slice AA nn cp)
                  have hrc4 := heap_inr hg4 hrc3 (fun g e => by cases e; omega)
                  have hdf4 := heap_inr hg4 hdf3 (fun g e => by cases e; omega)
                  have hR4 := HR3.out.row hg4 (fun e => by have := (HR3.out.lt _ e).1; omega)
                  have hC4 : CapB (A3.setCell ⟨w.heap.size, 0, none⟩ (.slice AA nn cp)) (w.heap.size + 1 + 1) (w.heap.size + 1) (w.heap.size + 1 + 2) s1 := ⟨heap_inr hg4 hcap3.sep (fun g e => by cases e; omega), heap_inr hg4 hcap3.left (fun g e => by cases e; omega), heap_inr hg4 hcap3.save (fun g e => by cases e; omega)⟩
                  have hS4 : Sw w w.heap.size D oB (pre ++ [x.data.toList]) (A3.setCell ⟨w.heap.size, 0, none⟩ (.slice AA nn cp)) := ⟨none_rowB hgr3 hg4 (fun g e => by cases e; exact Nat.le_refl _), ⟨_, hbx4, by rw [HWD.out, List.map_append]; exact hR4⟩, hrc4, hdf4⟩
                  have he := run_endRound (P := Tryz.prog) none hS4.rc
                  have hB := HE.out
                  simp only [Option.isNone_none, if_true] at he
                  rw [hB] at he
                  exact ⟨_, _, he, .inl ⟨rfl, hS4.put (Nat.le_refl _) (by omega) o, hC4.put (by omega) (by omega) (by omega) _⟩⟩
                exact AllReadyIn.nil
              exact AllReadyIn.nil
            exact AllReadyIn.nil
          exact AllReadyIn.nil
        exact AllReadyIn.nil
      refine AllReadyIn.cons rfl (fun K hK => ?_) ?_
      · go_simp
        refine hK _ _ ?_
        clear hK K
        refine wpAnyIn_ready (rs := [0, 2]) (by kernel_rfl) (by simp) ?_
        refine AllReadyIn.cons rfl (fun K hK => ?_) ?_
        · go_simp
          refine hK _ _ ?_
          clear hK K
          refine wpAnyIn_ready (rs := [2]) (by kernel_rfl) (by simp) ?_
          refine AllReadyIn.cons rfl (fun K hK => ?_) ?_
          · go_simp
            gi_wp2_with (refine ⟨trivial, ?_⟩; gi_at_call 59; refine (CallsIn.inRound _ (callsIn_wide.2 (clone_any x _ hx))).mono ?_; rintro e A1 ⟨rfl, hb1⟩)
            have hA1 := none_of_below hb1 (Nat.le_refl _)
            have hx1 := HV.out A1 hA1
            have hx2 := hx1.alloc (.cells #[.string x] 9)
            have c1 := (cell_box hx1.box).1
            have c2 := (cell_box hx2.box).1
            clear hb1
            refine wpAnyIn_ready (rs := [3]) (by kernel_rfl) (by simp) ?_
            refine AllReadyIn.cons rfl (fun K hK => ?_) ?_
            · go_simp
              refine hK _ _ ?_
              clear hK K
              refine wpAnyIn_ready (rs := [4]) (by kernel_rfl) (by simp) ?_
              refine AllReadyIn.cons rfl (fun K hK => ?_) ?_
              · rw [if_pos (by kernel_rfl)]
                refine wpIn_appX rowS (.tmp 10) (.tmp 13) rfl (p := [.string x]) (b := A1.heap.size) (off := 0) (c := 1) hx2.row (fun j v hj => by have := (CB.new A1 9 [.string x]).at_ hj; rwa [Nat.zero_add]) rfl (by simp [Value.oneCell']) (by first | rfl | go_simp) (by first | rfl | go_simp) HB.out hx2.big ?_
                intro v' A3 h5 g5
                obtain ⟨AA, cp, hv9, -⟩ := h5.shape
                generalize List.length _ = nn at hv9
                subst hv9
                obtain ⟨hbx, hrc3, hdf3, hgr3, hcap3⟩ := HV3.out A1 A3 hA1 g5
                have HR3 := Lib.hid h5
                have c3 := cell_box hbx
                clear c0 c1 c2 hx1 hx2
                refine hK _ _ ?_
                clear hK K
                refine wpAnyIn_ready (rs := [5]) (by kernel_rfl) (by simp) ?_
                refine AllReadyIn.cons rfl (fun K hK => ?_) ?_
                · go_simp
                  refine hK _ _ ?_
                  clear hK K
                  refine wpAnyIn_done (by kernel_rfl) ?_ _
                  have hz := HZ.out
                  have hbx4 := heap_setCell1 (u := .slice AA nn cp) hbx
                  have hg4 := grownC_set A3 w.heap.size 0 (.slice AA nn cp)
                  have hrc4 := heap_inr hg4 hrc3 (fun g e => by cases e; omega)
                  have hdf4 := heap_inr hg4 hdf3 (fun g e => by cases e; omega)
                  have hR4 := HR3.out.row hg4 (fun e => by have := (HR3.out.lt _ e).1; omega)
                  have hC4 : CapB (A3.setCell ⟨w.heap.size, 0, none⟩ (.slice AA nn cp)) (w.heap.size + 1 + 1) (w.heap.size + 1) (w.heap.size + 1 + 2) s1 := ⟨heap_inr hg4 hcap3.sep (fun g e => by cases e; omega), heap_inr hg4 hcap3.left (fun g e => by cases e; omega), heap_inr hg4 hcap3.save (fun g e => by cases e; omega)⟩
                  have hS4 : Sw w w.heap.size D oB (pre ++ [x.data.toList]) (A3.setCell ⟨w.heap.size, 0, none⟩ (.slice AA nn cp)) := ⟨none_rowB hgr3 hg4 (fun g e => by cases e; exact Nat.le_refl _), ⟨_, hbx4, by rw [HWD.out, List.map_append]; exact hR4⟩, hrc4, hdf4⟩
                  have he := run_endRound (P := Tryz.prog) none hS4.rc
                  have hB := HE.out
                  simp only [Option.isNone_none, if_true] at he
                  rw [hB] at he
                  exact ⟨_, _, he, .inl ⟨rfl, hS4.put (Nat.le_refl _) (by omega) o, hC4.put (by omega) (by omega) (by omega) _⟩⟩
                exact AllReadyIn.nil
              exact AllReadyIn.nil
            exact AllReadyIn.nil
          exact AllReadyIn.nil
        refine AllReadyIn.cons rfl (fun K hK => ?_) ?_
        · go_simp
          gi_wp2_with (refine ⟨trivial, ?_⟩; gi_at_call 59; refine (CallsIn.inRound _ (callsIn_wide.2 (clone_any x _ hx))).mono ?_; rintro e A1 ⟨rfl, hb1⟩)
          have hA1 := none_of_below hb1 (Nat.le_refl _)
          have hx1 := HV.out A1 hA1
          have hx2 := hx1.alloc (.cells #[.string x] 9)
          have c1 := (cell_box hx1.box).1
          have c2 := (cell_box hx2.box).1
          clear hb1
          refine wpAnyIn_ready (rs := [0, 3]) (by kernel_rfl) (by simp) ?_
          refine AllReadyIn.cons rfl (fun K hK => ?_) ?_
          · go_simp
            refine hK _ _ ?_
            clear hK K
            refine wpAnyIn_ready (rs := [3]) (by kernel_rfl) (by simp) ?_
            refine AllReadyIn.cons rfl (fun K hK => ?_) ?_
            · go_simp
              refine hK _ _ ?_
              clear hK K
              refine wpAnyIn_ready (rs := [4]) (by kernel_rfl) (by simp) ?_
              refine AllReadyIn.cons rfl (fun K hK => ?_) ?_
              · rw [if_pos (by kernel_rfl)]
                refine wpIn_appX rowS (.tmp 10) (.tmp 13) rfl (p := [.string x]) (b := A1.heap.size) (off := 0) (c := 1) hx2.row (fun j v hj => by have := (CB.new A1 9 [.string x]).at_ hj; rwa [Nat.zero_add]) rfl (by simp [Value.oneCell']) (by first | rfl | go_simp) (by first | rfl | go_simp) HB.out hx2.big ?_
                intro v' A3 h5 g5
                obtain ⟨AA, cp, hv9, -⟩ := h5.shape
                generalize List.length _ = nn at hv9
                subst hv9
                obtain ⟨hbx, hrc3, hdf3, hgr3, hcap3⟩ := HV3.out A1 A3 hA1 g5
                have HR3 := Lib.hid h5
                have c3 := cell_box hbx
                clear c0 c1 c2 hx1 hx2
                refine hK _ _ ?_
                clear hK K
                refine wpAnyIn_ready (rs := [5]) (by kernel_rfl) (by simp) ?_
                refine AllReadyIn.cons rfl (fun K hK => ?_) ?_
                · go_simp
                  refine hK _ _ ?_
                  clear hK K
                  refine wpAnyIn_done (by kernel_rfl) ?_ _
                  have hz := HZ.out
                  have hbx4 := heap_setCell1 (u := .slice AA nn cp) hbx
                  have hg4 := grownC_set A3 w.heap.size 0 (.slice AA nn cp)
                  have hrc4 := heap_inr hg4 hrc3 (fun g e => by cases e; omega)
                  have hdf4 := heap_inr hg4 hdf3 (fun g e => by cases e; omega)
                  have hR4 := HR3.out.row hg4 (fun e => by have := (HR3.out.lt _ e).1; omega)
                  have hC4 : CapB (A3.setCell ⟨w.heap.size, 0, none⟩ (.slice AA nn cp)) (w.heap.size + 1 + 1) (w.heap.size + 1) (w.heap.size + 1 + 2) s1 := ⟨heap_inr hg4 hcap3.sep (fun g e => by cases e; omega), heap_inr hg4 hcap3.left (fun g e => by cases e; omega), heap_inr hg4 hcap3.save (fun g e => by cases e; omega)⟩
                  have hS4 : Sw w w.heap.size D oB (pre ++ [x.data.toList]) (A3.setCell ⟨w.heap.size, 0, none⟩ (.slice AA nn cp)) := ⟨none_rowB hgr3 hg4 (fun g e => by cases e; exact Nat.le_refl _), ⟨_, hbx4, by rw [HWD.out, List.map_append]; exact hR4⟩, hrc4, hdf4⟩
                  have he := run_endRound (P := Tryz.prog) none hS4.rc
                  have hB := HE.out
                  simp only [Option.isNone_none, if_true] at he
                  rw [hB] at he
                  exact ⟨_, _, he, .inl ⟨rfl, hS4.put (Nat.le_refl _) (by omega) o, hC4.put (by omega) (by omega) (by omega) _⟩⟩
                exact AllReadyIn.nil
              exact AllReadyIn.nil
            exact AllReadyIn.nil
          refine AllReadyIn.cons rfl (fun K hK => ?_) ?_
          · go_simp
            refine hK _ _ ?_
            clear hK K
            refine wpAnyIn_ready (rs := [0]) (by kernel_rfl) (by simp) ?_
            refine AllReadyIn.cons rfl (fun K hK => ?_) ?_
            · go_simp
              refine hK _ _ ?_
              clear hK K
              refine wpAnyIn_ready (rs := [4]) (by kernel_rfl) (by simp) ?_
              refine AllReadyIn.cons rfl (fun K hK => ?_) ?_
              · rw [if_pos (by kernel_rfl)]
                refine wpIn_appX rowS (.tmp 10) (.tmp 13) rfl (p := [.string x]) (b := A1.heap.size) (off := 0) (c := 1) hx2.row (fun j v hj => by have := (CB.new A1 9 [.string x]).at_ hj; rwa [Nat.zero_add]) rfl (by simp [Value.oneCell']) (by first | rfl | go_simp) (by first | rfl | go_simp) HB.out hx2.big ?_
                intro v' A3 h5 g5
                obtain ⟨AA, cp, hv9, -⟩ := h5.shape
                generalize List.length _ = nn at hv9
                subst hv9
                obtain ⟨hbx, hrc3, hdf3, hgr3, hcap3⟩ := HV3.out A1 A3 hA1 g5
                have HR3 := Lib.hid h5
                have c3 := cell_box hbx
                clear c0 c1 c2 hx1 hx2
                refine hK _ _ ?_
                clear hK K
                refine wpAnyIn_ready (rs := [5]) (by kernel_rfl) (by simp) ?_
                refine AllReadyIn.cons rfl (fun K hK => ?_) ?_
                · go_simp
                  refine hK _ _ ?_
                  clear hK K
                  refine wpAnyIn_done (by kernel_rfl) ?_ _
                  have hz := HZ.out
                  have hbx4 := heap_setCell1 (u := .slice AA nn cp) hbx
                  have hg4 := grownC_set A3 w.heap.size 0 (.slice AA nn cp)
                  have hrc4 := heap_inr hg4 hrc3 (fun g e => by cases e; omega)
                  have hdf4 := heap_inr hg4 hdf3 (fun g e => by cases e; omega)
                  have hR4 := HR3.out.row hg4 (fun e => by have := (HR3.out.lt _ e).1; omega)
                  have hC4 : CapB (A3.setCell ⟨w.heap.size, 0, none⟩ (.slice AA nn cp)) (w.heap.size + 1 + 1) (w.heap.size + 1) (w.heap.size + 1 + 2) s1 := ⟨heap_inr hg4 hcap3.sep (fun g e => by cases e; omega), heap_inr hg4 hcap3.left (fun g e => by cases e; omega), heap_inr hg4 hcap3.save (fun g e => by cases e; omega)⟩
                  have hS4 : Sw w w.heap.size D oB (pre ++ [x.data.toList]) (A3.setCell ⟨w.heap.size, 0, none⟩ (.slice AA nn cp)) := ⟨none_rowB hgr3 hg4 (fun g e => by cases e; exact Nat.le_refl _), ⟨_, hbx4, by rw [HWD.out, List.map_append]; exact hR4⟩, hrc4, hdf4⟩
                  have he := run_endRound (P := Tryz.prog) none hS4.rc
                  have hB := HE.out
                  simp only [Option.isNone_none, if_true] at he
                  rw [hB] at he
                  exact ⟨_, _, he, .inl ⟨rfl, hS4.put (Nat.le_refl _) (by omega) o, hC4.put (by omega) (by omega) (by omega) _⟩⟩
                exact AllReadyIn.nil
              exact AllReadyIn.nil
            exact AllReadyIn.nil
          exact AllReadyIn.nil
        exact AllReadyIn.nil
      exact AllReadyIn.nil
  · rintro e W2 ⟨⟨v, rfl⟩, (hS | ⟨pre, -, h⟩)⟩
    · have he := run_endLoop (P := Tryz.prog) hS.rc (by rw [hor]; simp)
      rw [hope] at he
      obtain ⟨W4, he, o', hS4⟩ : ∃ W4, (Instr.endLoop (D + 1)).run Tryz.prog W2 = .ok none W4 ∧ ∃ o', Sw w w.heap.size D o' (pieces1 32 s.data.toList) W4 := ⟨_, he, _, hS.put (by omega) (by omega) _⟩
      refine ⟨none, W4, he, ?_⟩
      obtain ⟨v, hv, hr⟩ := hS4.res
      have c5 := cell_box hv
      have HS4 := Lib.hid hS4
      have HZ := Lib.hid hz1
      have HR := Lib.hid hr
      clear he hS hS4 hz1 hcap hcap1 hSt0 hb1 hres hop hot hoa hob hoB hor hope hBo hr hv
      gi_wp2
      have hz := HZ.out
      refine ⟨by simp, .inl ⟨_, _, rfl, run_takeDeferred HS4.out.df, ?_⟩⟩
      refine ⟨_, results_tmp rfl _ _ _, ?_⟩
      have hg5 := grownBy_putObj' W4 D (.deferred none)
      exact ⟨_, rfl, by rw [← HL.out]; exact (HR.out.row hg5 (fun e => by have := (HR.out.lt D e).1; omega)).base_ (by omega), none_rowB HS4.out.gr hg5 (fun g e => by cases e; omega)⟩
    · exact h.elim
end Go.Proofs.YtlkchajkhplapaaGreatDoor
