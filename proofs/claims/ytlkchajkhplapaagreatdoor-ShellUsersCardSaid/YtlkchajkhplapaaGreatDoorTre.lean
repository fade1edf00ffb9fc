/- Path: is a text a path? -/
import Derived.Test.YtlkchajkhplapaaGreatDoorTrd
namespace Go.Proofs.YtlkchajkhplapaaGreatDoor
open Go.RowKit Go.Shelf
attribute [local go_sem] Oper.semAt_some

theorem res_new (w : World) (u : Value) (t : TypeId) : (w.alloc (.cells #[u] t)).cell? ⟨w.heap.size, 0, none⟩ = some u := (cell_box (World.alloc_heap_new w (.cells #[u] t))).1
theorem run_results16 {tmps : Array Value} {g : Nat} {v : Value} {W : World} (hp : tmps.getD 2 undef = .pointer (some ⟨g, 0, none⟩)) (hc : W.cell? ⟨g, 0, none⟩ = some v) :
    (results Tryz.f70 tmps).run Tryz.prog W = .ok v W := by
  have hp' : tmps[2]?.getD undef = .pointer (some ⟨g, 0, none⟩) := by simpa using hp
  simp [results, Tryz.f70, go_sem, hc, hp']

set_option maxHeartbeats 2000000 in
theorem path_early (w : World) (s : ByteArray) (l : List UInt8) (hl : s.data.toList = l) (hs : l.length ≤ 1000000) (h : l = [47] ∨ ¬ (l.head? = some 47 ∧ l.tail.count 47 < 6)) :
    Calls Tryz.prog 70 #[.string s] w fun e w' => e = .returned (.bool (pathOk l)) ∧ Below w.heap.size w w' := by
  have HB := Lib.hid (fun v => (Below.refl _ w).alloc (Nat.le_refl _) (.cells #[v] 4))
  have hc0 := World.alloc_heap_new w (.cells #[.bool false] 4)
  have c0 := cell_box hc0
  clear hc0
  by_cases h1 : l = [47]
  · have hb := bytes_of hl
    subst h1
    subst hb
    rw [show pathOk [47] = true from rfl]
    clear hl h
    go_enter Tryz.func70, Tryz.ntmps70
    go_wp2
    refine bodyPost_ret (run_results16 rfl (res_new _ _ _)) rfl ?_
    exact ⟨rfl, HB.out _⟩
  · have n3 := str_ne (a := s) (b := ⟨#[47]⟩) (fun e => h1 (by rw [← hl, e]))
    have n3' : (s.toList == [47]) = false := by rw [show ([47] : List UInt8) = (⟨#[47]⟩ : ByteArray).toList from by rw [ByteArray.toList_eq]]; exact n3
    clear n3
    have hq : (l == [47]) = false := beq_eq_false_iff_ne.2 h1
    by_cases h2 : l.head? = some 47
    · obtain ⟨t, rfl⟩ : ∃ t, l = 47 :: t := by
        cases l with
        | nil => simp at h2
        | cons a t => simp at h2; exact ⟨t, by rw [h2]⟩
      have h3 : ¬ t.count 47 < 6 := by
        rcases h with h | h
        · exact absurd h h1
        · exact fun hc => h ⟨rfl, hc⟩
      have hp : pathOk (47 :: t) = false := by
        rw [pathOk, hq]
        simp [h3]
      rw [hp]
      have HP := Lib.hid (show Lib.hasPrefix s.data.toList (ByteArray.mk #[47]).data.toList = true by rw [hl]; rfl)
      have HT := Lib.hid (show Lib.trimPrefix s.data.toList (ByteArray.mk #[47]).data.toList = t by rw [hl]; rfl)
      have hk : (6 : Int) ≤ (t.count 47 : Int) := by omega
      clear hl h hq hp h1 h2 h3 hs
      go_enter Tryz.func70, Tryz.ntmps70
      go_wp2_with (first
        | (go_at_call 88; refine (sh_strings_CutPrefix s ⟨#[47]⟩ _).mono ?_; rintro e w1 ⟨rfl, rfl⟩; rw [HP.out, HT.out])
        | (go_at_call 89; refine (sh_strings_Count_one ⟨t.toArray⟩ 47 _).mono ?_; rintro e w1 ⟨rfl, rfl⟩; rw [show Lib.countByte (ByteArray.mk t.toArray).data.toList 47 = t.count 47 from rfl]))
      refine bodyPost_ret (run_results16 rfl (res_new _ _ _)) rfl ?_
      exact ⟨rfl, HB.out _⟩
    · have hp : pathOk l = false := by
        rw [pathOk, hq]
        simp [h2]
      rw [hp]
      have HP := Lib.hid (show Lib.hasPrefix s.data.toList (ByteArray.mk #[47]).data.toList = false by
        rw [hl]
        cases l with
        | nil => rfl
        | cons a t =>
          have : ¬ a = 47 := fun e => h2 (by rw [e]; rfl)
          have h' : ((47 : UInt8) == a) = false := beq_eq_false_iff_ne.2 (fun e => this e.symm)
          show [47].isPrefixOf (a :: t) = false
          simp [List.isPrefixOf, h'])
      clear hl h hq hp h1 h2 hs
      go_enter Tryz.func70, Tryz.ntmps70
      go_wp2_with (go_at_call 88; refine (sh_strings_CutPrefix s ⟨#[47]⟩ _).mono ?_; rintro e w1 ⟨rfl, rfl⟩; rw [HP.out])
      refine bodyPost_ret (run_results16 rfl (res_new _ _ _)) rfl ?_
      exact ⟨rfl, HB.out _⟩

def allOk (pre : List (List UInt8)) : Bool := pre.all nameOk
theorem allOk_snoc (pre : List (List UInt8)) (x : List UInt8) : allOk (pre ++ [x]) = (allOk pre && nameOk x) := by simp [allOk]
/-- A range over a function, at the wide fence: the record that the machine lays, and one call of the function. -/
theorem wpIn_rangeFunc_rec {P : Program} {n : Nat} {g : Operand} {ps : Array Tmp} {assign body : Code} {Q : Exit → Act → World → Prop} {a : Act} {w : World} {gf : Nat} {lb : Array Value}
    (hg : a.eval g = .func (.func gf) #[] lb) (eg : Enters P gf)
    (h : ∀ (fn : FuncId) (o : Loop), o = { state := .ready, pending := none, fn := fn, tmps := a.tmps, params := ps, assign := assign, body := body, defers := w.heap.size } →
      CallsIn Fence.wide (n - 1) P gf (#[.func (.yield (w.heap.size + 1)) #[] #[]] ++ lb) ((w.alloc (.deferred (some []))).alloc (.loop o))
        (rangePost Fence.wide n P (w.heap.size + 1) Q { a with defers := [{ target := .collected w.heap.size, args := #[] }] ++ a.defers })) :
    (Code.rangeFunc g ps assign body).wpIn Fence.wide n P Q a w := by
  refine wpIn_rangeFunc fun fn _ => ?_
  obtain ⟨W1, hW1⟩ : ∃ W1, W1 = (w.alloc (.deferred (some []))).alloc (.loop { state := .ready, pending := none, fn := fn, tmps := a.tmps, params := ps, assign := assign, body := body, defers := w.heap.size }) := ⟨_, rfl⟩
  have hc := h fn _ rfl
  rw [← hW1] at hc
  refine ⟨w.heap.size + 1, [{ target := .collected w.heap.size, args := #[] }], W1, { target := .fn (.func gf) lb, args := #[.func (.yield (w.heap.size + 1)) #[] #[]] }, W1, gf, _, W1, ?_, ?_, ?_, ?_, (fun h => nomatch h), hc⟩
  · rw [hW1]; exact run_enterLoop_outer _ _ _ _ _
  · simp only [resolve, hg]
    simp [go_sem]
  · exact fun _ _ => trivial
  · have := eg (#[.func (.yield (w.heap.size + 1)) #[] #[]] ++ lb) W1
    simp [invoke, go_sem]
    simpa using this
theorem St.res0 {B R0 D l : Nat} {w0 W : World} {o : Loop} (h : St B w0 R0 D l o W) (hB : B ≤ R0) (h2 : D ≠ R0) (h3 : l ≠ R0) : St B w0 R0 D l o (W.setCell ⟨R0, 0, none⟩ (.bool false)) :=
  ⟨h.below.setCell (p := ⟨R0, 0, none⟩) hB _, heap_setCell1 h.res, (Below.heap_setCell W ⟨R0, 0, none⟩ _ l h3).trans h.rc, (Below.heap_setCell W ⟨R0, 0, none⟩ _ D h2).trans h.df⟩
theorem Cap.other {W : World} {p b q : Nat} {s : ByteArray} (h : Cap W p b q s) {R0 : Nat} (h1 : p ≠ R0) (h2 : b ≠ R0) (h3 : q ≠ R0) (u : Value) : Cap (W.setCell ⟨R0, 0, none⟩ u) p b q s :=
  ⟨(Below.heap_setCell W ⟨R0, 0, none⟩ _ p h1).trans h.sep, (Below.heap_setCell W ⟨R0, 0, none⟩ _ b h2).trans h.left, (Below.heap_setCell W ⟨R0, 0, none⟩ _ q h3).trans h.save⟩

set_option maxRecDepth 100000 in
set_option maxHeartbeats 4000000 in
theorem path_loop (w : World) (s : ByteArray) (t : List UInt8) (hl : s.data.toList = 47 :: t) (hs : t.length ≤ 100000) (h1 : t ≠ []) (h3 : t.count 47 < 6) :
    Calls Tryz.prog 70 #[.string s] w fun e w' => e = .returned (.bool ((pieces1 47 t).all nameOk)) ∧ Below w.heap.size w w' := by
  refine (callsIn_wide (n := 9)).1 ?_
  refine callsIn_of_wp_marks Tryz.func70 rfl trivial ?_ rfl
  simp only [Tryz.ntmps70, List.size_toArray, List.length_cons, List.length_nil, Nat.reduceAdd, Nat.reduceSub, Array.replicate_succ, Array.replicate_zero, List.push_toArray, List.append_toArray, List.nil_append, List.cons_append]
  have n3 := str_ne (a := s) (b := ⟨#[47]⟩) (fun e => h1 (by rw [e] at hl; simpa using hl.symm))
  have n3' : (s.toList == [47]) = false := by rw [show ([47] : List UInt8) = (⟨#[47]⟩ : ByteArray).toList from by rw [ByteArray.toList_eq]]; exact n3
  clear n3
  have HP := Lib.hid (show Lib.hasPrefix s.data.toList (ByteArray.mk #[47]).data.toList = true by rw [hl]; rfl)
  have HT := Lib.hid (show Lib.trimPrefix s.data.toList (ByteArray.mk #[47]).data.toList = t by rw [hl]; rfl)
  have hk : ¬ (6 : Int) ≤ (t.count 47 : Int) := by omega
  have hc0 := World.alloc_heap_new w (.cells #[.bool false] 4)
  have c0 := cell_box hc0
  have HB := Lib.hid ((Below.refl _ w).alloc (Nat.le_refl _) (.cells #[.bool false] 4))
  have HC0 := Lib.hid hc0
  clear hc0 hl h3
  gi_wp2_with (refine ⟨trivial, ?_⟩; first
    | (gi_at_call 88; refine (callsIn_wide.2 (sh_strings_CutPrefix s ⟨#[47]⟩ _)).mono ?_; rintro e w1 ⟨rfl, rfl⟩; rw [HP.out, HT.out])
    | (gi_at_call 89; refine (callsIn_wide.2 (sh_strings_Count_one ⟨t.toArray⟩ 47 _)).mono ?_; rintro e w1 ⟨rfl, rfl⟩; rw [show Lib.countByte (ByteArray.mk t.toArray).data.toList 47 = t.count 47 from rfl])
    | (gi_at_call 75; refine (callsIn_wide.2 (SplitSeq_any _ ⟨t.toArray⟩)).mono ?_; rintro e w1 ⟨rfl, hw1⟩))
  rw [← hw1]
  have hz1 : w1.heap.size = w.heap.size + 4 := by rw [hw1]; simp [capW]
  have hcap : Cap w1 (w.heap.size + 1 + 1) (w.heap.size + 1) (w.heap.size + 1 + 2) ⟨t.toArray⟩ := by
    have := Cap.of_new (w.alloc (.cells #[.bool false] 4)) ⟨t.toArray⟩
    rw [World.size_alloc] at this
    rw [hw1]; exact this
  have hb1 : Below w.heap.size w w1 := by
    rw [hw1]
    exact ((HB.out.alloc (by simp) _).alloc (by simp; omega) _).alloc (by simp; omega) _
  have hres : w1.heap[w.heap.size]? = some (.cells #[.bool false] 4 (0, 0)) := by
    rw [hw1, capW]
    exact (Below.heap_alloc _ _ _ (by simp; omega)).trans ((Below.heap_alloc _ _ _ (by simp; omega)).trans ((Below.heap_alloc _ _ _ (by simp)).trans HC0.out))
  clear hw1
  refine wpIn_rangeFunc_rec rfl (enters_of Tryz.func113 (by kernel_rfl) rfl) ?_
  intro fn o ho
  have hor : o.state = .ready := by rw [ho]
  have hope : o.pending = none := by rw [ho]
  have hop := congrArg Loop.params ho
  have hot := congrArg Loop.tmps ho
  have hoa := congrArg Loop.assign ho
  have hob := congrArg Loop.body ho
  dsimp only at hop hot hoa hob
  clear ho
  obtain ⟨D, hD⟩ : ∃ D, D = w1.heap.size := ⟨_, rfl⟩
  have hSt0 : St w.heap.size w w.heap.size D (D + 1) o ((w1.alloc (.deferred (some []))).alloc (.loop o)) := by
    have d1 := World.alloc_heap_new w1 (.deferred (some []))
    have d2 := World.alloc_heap_new (w1.alloc (.deferred (some []))) (.loop o)
    rw [World.size_alloc] at d2
    subst hD
    exact ⟨(hb1.alloc (by omega) _).alloc (by simp; omega) _, (Below.heap_alloc _ _ _ (by simp; omega)).trans ((Below.heap_alloc _ _ _ (by omega)).trans hres), d2, (Below.heap_alloc _ _ _ (by simp)).trans d1⟩
  have hcap1 : Cap ((w1.alloc (.deferred (some []))).alloc (.loop o)) (w.heap.size + 1 + 1) (w.heap.size + 1) (w.heap.size + 1 + 2) ⟨t.toArray⟩ :=
    ⟨(Below.heap_alloc _ _ _ (by simp; omega)).trans ((Below.heap_alloc _ _ _ (by omega)).trans hcap.sep), (Below.heap_alloc _ _ _ (by simp; omega)).trans ((Below.heap_alloc _ _ _ (by omega)).trans hcap.left), (Below.heap_alloc _ _ _ (by simp; omega)).trans ((Below.heap_alloc _ _ _ (by omega)).trans hcap.save)⟩
  rw [← hD] at hz1 ⊢
  clear hD
  obtain ⟨oD, hoD⟩ : ∃ oD : Loop, oD = { o with state := .done, pending := some .ret } := ⟨_, rfl⟩
  obtain ⟨oB, hoB⟩ : ∃ oB : Loop, oB = { o with state := .busy } := ⟨_, rfl⟩
  have hoDs : oD.state = .done := by rw [hoD]
  have hoDp : oD.pending = some .ret := by rw [hoD]
  have hBo : ∀ W, { oB with state := .ready, pending := none } = o ∧ { oB with state := .done, pending := some .ret } = oD ∧ W = (W : World) := by
    intro W
    subst hoD hoB
    cases o
    simp at hor hope
    subst hor hope
    exact ⟨rfl, rfl, rfl⟩
  refine (seq1_any (9 - 1) (D + 1) (w.heap.size + 1 + 1) (w.heap.size + 1) (w.heap.size + 1 + 2) ⟨t.toArray⟩ (by omega) (by omega) (show t.length ≤ 1000000 by omega) (by omega)
    (fun pre W => St w.heap.size w w.heap.size D (D + 1) o W ∧ allOk pre = true)
    (fun pre W => St w.heap.size w w.heap.size D (D + 1) oD W ∧ allOk pre = false)
    (fun pre W u h => ⟨h.1.set (by omega) (by omega) (by omega) (by omega) _, h.2⟩) ?_ _ hcap1 ⟨hSt0, rfl⟩).mono ?_
  · rintro pre x W s1 ⟨hS, hall⟩ hC hx
    have hy := run_yield (P := Tryz.prog) (args := #[.string x]) hS.rc (by rw [hop]; rfl)
    refine ⟨o.fn, _, o.assign, o.body, hy, roundIn_of_wpIn trivial ?_⟩
    clear hy
    rw [hop, hot, hoa, hob]
    have hS2 := hS.put (by omega) (by omega) (by omega) oB
    have hC2 := hC.put (l := D + 1) (by omega) (by omega) (by omega) (.loop oB)
    have hbeg := run_beginRound (P := Tryz.prog) hS.rc hor
    rw [← hoB] at hbeg
    obtain ⟨W2, hW2⟩ : ∃ W2, W2 = W.putObj (D + 1) (.loop oB) := ⟨_, rfl⟩
    rw [← hW2] at hS2 hC2 hbeg
    have HZ := Lib.hid hz1
    have HS2 := Lib.hid hS2
    have HC2 := Lib.hid hC2
    have HE := Lib.hid hBo
    clear hz1 hW2 hS hC hcap hcap1 hSt0 hb1 hres hop hot hoa hob hoB hoD hor hope hBo
    have RN := Lib.hid (fun W => rightName_any x _ rfl W hx)
    cases hok : nameOk x.data.toList with
    | true =>
      have HO := Lib.hid hok
      have HA := Lib.hid (show allOk (pre ++ [x.data.toList]) = true by rw [allOk_snoc, hall, hok]; rfl)
      clear hok hall
      gi_wp2_with (refine ⟨trivial, ?_⟩; gi_at_call 90; refine (CallsIn.inRound _ (callsIn_wide.2 (RN.out _))).mono ?_; rintro e w5 ⟨rfl, rfl⟩; rw [HO.out])
      have hz := HZ.out
      have he := run_endRound (P := Tryz.prog) none HS2.out.rc
      have hB := (HE.out w).1
      simp only [Option.isNone_none, if_true] at he
      rw [hB] at he
      exact ⟨_, _, he, .inl ⟨rfl, ⟨HS2.out.put (by omega) (by omega) (by omega) o, HA.out⟩, HC2.out.put (by omega) (by omega) (by omega) _⟩⟩
    | false =>
      have HO := Lib.hid hok
      have HA := Lib.hid (show allOk (pre ++ [x.data.toList]) = false by rw [allOk_snoc, hall, hok]; rfl)
      clear hok hall
      have c5 := cell_box HS2.out.res
      clear hS2 hC2
      gi_wp2_with (refine ⟨trivial, ?_⟩; gi_at_call 90; refine (CallsIn.inRound _ (callsIn_wide.2 (RN.out _))).mono ?_; rintro e w5 ⟨rfl, rfl⟩; rw [HO.out])
      have hz := HZ.out
      have hS3 := HS2.out.res0 (Nat.le_refl _) (by omega) (by omega)
      have he := run_endRound (P := Tryz.prog) (some .ret) hS3.rc
      have hB := (HE.out w).2.1
      simp only [Option.isNone_some, Bool.false_eq_true, if_false] at he
      rw [hB] at he
      exact ⟨_, _, he, .inr ⟨rfl, hS3.put (by omega) (by omega) (by omega) oD, HA.out⟩⟩
  · rintro e W2 ⟨⟨v, rfl⟩, (⟨hS, hall⟩ | ⟨pre, hpre, hS, hall⟩)⟩
    · have he := run_endLoop (P := Tryz.prog) hS.rc (by rw [hor]; simp)
      rw [hope] at he
      obtain ⟨W4, he, o', hS4⟩ : ∃ W4, (Instr.endLoop (D + 1)).run Tryz.prog W2 = .ok none W4 ∧ ∃ o', St w.heap.size w w.heap.size D (D + 1) o' W4 := ⟨_, he, _, hS.put (by omega) (by omega) (by omega) _⟩
      refine ⟨none, W4, he, ?_⟩
      have c5 := cell_box hS4.res
      have HS4 := Lib.hid hS4
      have HZ := Lib.hid hz1
      have HA := Lib.hid hall
      clear he hS hS4 hz1 hcap hcap1 hSt0 hb1 hres hop hot hoa hob hoB hoD hor hope hBo hoDs hoDp hall
      gi_wp2
      have hz := HZ.out
      have hS4 := HS4.out
      have hK' := (Below.heap_setCell W4 ⟨w.heap.size, 0, none⟩ (.bool true) D (show D ≠ w.heap.size by omega)).trans hS4.df
      refine ⟨by simp, .inl ⟨_, _, rfl, run_takeDeferred hK', ?_⟩⟩
      have hr := (cell_box ((World.putObj_heap_other (o := .deferred none) (show w.heap.size ≠ D by omega)).trans (heap_setCell1 (u := .bool true) hS4.res))).1
      refine ⟨.bool true, run_results16 rfl hr, by rw [show (pieces1 47 t).all nameOk = true from HA.out], ?_⟩
      exact (hS4.below.setCell (p := ⟨w.heap.size, 0, none⟩) (Nat.le_refl _) _).grown (grownBy_putObj' _ D _) (by have := (Array.getElem?_eq_some_iff.1 hK').1; omega) (fun k e => by cases e; omega)
    · have he := run_endLoop (P := Tryz.prog) hS.rc (by rw [hoDs]; simp)
      rw [hoDp] at he
      obtain ⟨W4, he, o', hS4⟩ : ∃ W4, (Instr.endLoop (D + 1)).run Tryz.prog W2 = .ok (some .ret) W4 ∧ ∃ o', St w.heap.size w w.heap.size D (D + 1) o' W4 := ⟨_, he, _, hS.put (by omega) (by omega) (by omega) _⟩
      refine ⟨some .ret, W4, he, ?_⟩
      have HS4 := Lib.hid hS4
      have HZ := Lib.hid hz1
      have HA := Lib.hid (show (pieces1 47 t).all nameOk = false by
        obtain ⟨r, hr⟩ := hpre
        rw [show (ByteArray.mk t.toArray).data.toList = t from rfl] at hr
        rw [← hr, List.all_append, show pre.all nameOk = false from hall]; rfl)
      clear he hS hS4 hz1 hcap hcap1 hSt0 hb1 hres hop hot hoa hob hoB hoD hor hope hBo hoDs hoDp hall hpre
      gi_wp2
      have hz := HZ.out
      have hS4 := HS4.out
      have hK' := hS4.df
      refine ⟨by simp, .inl ⟨_, _, rfl, run_takeDeferred hK', ?_⟩⟩
      have hr := (cell_box ((World.putObj_heap_other (o := .deferred none) (show w.heap.size ≠ D by omega)).trans hS4.res)).1
      refine ⟨.bool false, run_results16 rfl hr, by rw [HA.out], ?_⟩
      exact hS4.below.grown (grownBy_putObj' _ D _) (by have := (Array.getElem?_eq_some_iff.1 hK').1; omega) (fun k e => by cases e; omega)

/-- Path, at any text. -/
theorem path_any (w : World) (s : ByteArray) (l : List UInt8) (hl : s.data.toList = l) (hs : l.length ≤ 100000) :
    Calls Tryz.prog 70 #[.string s] w fun e w' => e = .returned (.bool (pathOk l)) ∧ Below w.heap.size w w' := by
  by_cases h : l = [47] ∨ ¬ (l.head? = some 47 ∧ l.tail.count 47 < 6)
  · exact path_early w s l hl (by omega) h
  · have h1 : l ≠ [47] := fun e => h (.inl e)
    have h2 : l.head? = some 47 ∧ l.tail.count 47 < 6 := Classical.byContradiction fun e => h (.inr e)
    obtain ⟨t, rfl⟩ : ∃ t, l = 47 :: t := by
      cases l with
      | nil => simp at h2
      | cons a t => have := h2.1; simp at this; exact ⟨t, by rw [this]⟩
    have hp : pathOk (47 :: t) = (pieces1 47 t).all nameOk := by
      have hq : ((47 :: t : List UInt8) == [47]) = false := beq_eq_false_iff_ne.2 h1
      rw [pathOk, hq, decide_eq_true h2.2]
      simp
    rw [hp]
    exact path_loop w s t hl (by simp at hs; omega) (fun e => h1 (by rw [e])) h2.2
end Go.Proofs.YtlkchajkhplapaaGreatDoor
