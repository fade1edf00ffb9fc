/- The document's Words: a line's pieces between blanks that aren't empty. -/
import Derived.Test.YtlkchajkhplapaaGreatDoorUaj
namespace Go.Proofs.YtlkchajkhplapaaGreatDoor
open Go.RowKit Go.Maps Go.WideMaps

/-- Of these pieces those that aren't empty. -/
def wds (ps : List (List UInt8)) : List (List UInt8) := ps.filter fun x => decide (x ≠ [])
theorem take_on {α : Type} {ps : List α} {k : Nat} {x : α} (h : ps[k]? = some x) : ps.take (k + 1) = ps.take k ++ [x] := by
  obtain ⟨hk, rfl⟩ := List.getElem?_eq_some_iff.1 h
  exact List.take_succ_eq_append_getElem hk
theorem wds_snoc (ps : List (List UInt8)) (x : List UInt8) : wds (ps ++ [x]) = if x = [] then wds ps else wds ps ++ [x] := by
  unfold wds
  rw [List.filter_append]
  by_cases h : x = []
  · simp [h]
  · simp [h]
theorem wds_len (ps : List (List UInt8)) : (wds ps).length ≤ ps.length := List.length_filter_le _ _

set_option maxRecDepth 10000 in
set_option maxHeartbeats 2000000 in
theorem rwords_any (w : World) (s : ByteArray) (l : List UInt8) (hl : s.data.toList = l) (hs : l.length ≤ 100000) :
    Calls Tryz.prog 32 #[.string s] w fun e w' => ∃ v, e = .returned v ∧ RowX w' w.heap.size 9 1 v ((wds (pieces1 32 l)).map fun x => [kS x]) ∧ w.grownBy w' none := by
  obtain ⟨ps, hps⟩ : ∃ ps, pieces1 32 l = ps := ⟨_, rfl⟩
  obtain ⟨m, hm⟩ : ∃ m, ps.length = m := ⟨_, rfl⟩
  have HM := Lib.hid hm
  have HM0 := Lib.hid (show 0 < m by rw [← hm, ← hps, pieces_count]; omega)
  have HML := Lib.hid (show m ≤ 1000000 by rw [← hm, ← hps]; have := pieces_len 32 l; omega)
  have HSP := Lib.hid (fun W => refSplit_any W s l hl 32 hs)
  rw [hps] at HSP ⊢
  clear hl hs hm hps
  go_enter Tryz.func32, Tryz.ntmps32
  go_wp2_with (go_at_call 76; refine (HSP.out _).mono ?_; rintro e w1 ⟨v1, rfl, hr1, hg1⟩; (obtain ⟨g, cap, cs, hv1, hgb, -⟩ := rowX_open hr1 (by rw [List.length_map, HM.out]; exact HM0.out)); rw [List.length_map, HM.out] at hv1; subst hv1; have HGB := Lib.hid hgb; have R0 := Lib.hid ((RowX.new0 w w.heap.size 9 1 (Nat.le_refl _)).none hg1); have G1 := Lib.hid (grown_trans' (grown_alloc w (.cells #[] 9) none) hg1); have R1 := Lib.hid hr1; clear hg1 hr1 hgb)
  go_loopw [3, 5] (fun ov iv wr => ∃ k : Nat, iv = .int .i64 k ∧ k ≤ m ∧ Hid (RowX wr w.heap.size 9 1 ov ((wds (ps.take k)).map fun x => [kS x])) ∧ Hid (RowX wr (w.heap.size + 1) 9 1 (.slice (some ⟨g, 0, none⟩) m cap) (ps.map fun x => [kS x])) ∧ Hid (∀ h, ov.ownBlock = some h → h ≠ g) ∧ Hid (w.grownBy wr none)) (fun _ iv _ => m - (intOf iv).toNat)
  case atStart => exact ⟨0, rfl, Nat.zero_le _, R0.out, R1.out.base_ (by rw [World.size_alloc]; exact Nat.le_refl _), (fun h hh => by
    have h1 := HGB.out
    rw [World.size_alloc] at h1
    simp [Value.ownBlock] at hh
    omega), G1.out⟩
  case round =>
    obtain ⟨k, rfl, hk, HO, HP, HN, HW⟩ := hrel
    have hml := HML.out
    by_cases hlt : k < m
    · have hki : (k : Int) < (m : Int) := by omega
      obtain ⟨x, hx⟩ : ∃ x, ps[k]? = some x := ⟨_, List.getElem?_eq_getElem (by rw [HM.out]; exact hlt)⟩
      have c1 : wr.cell? ⟨g, k, none⟩ = some (.string ⟨x.toArray⟩) := by
        have h := rowX_at (k := k) (j := 0) (u := .string ⟨x.toArray⟩) HP.out (c := [kS x]) (by rw [List.getElem?_map, hx]; rfl) rfl
        rwa [Nat.one_mul, Nat.add_zero] at h
      have HT := Lib.hid (show wds (ps.take (k + 1)) = if x = [] then wds (ps.take k) else wds (ps.take k) ++ [x] by rw [take_on hx, wds_snoc])
      clear hx
      by_cases hx0 : x = []
      · subst hx0
        go_wp2
        go_roundw
        case rel => exact ⟨k + 1, by go_num, by omega, by rw [HT.out, if_pos rfl]; exact HO.out, HP.out, HN.out, HW.out⟩
        case measure => simp [intOf]; omega
      · have n3 : x.isEmpty = false := by cases x with
          | nil => exact absurd rfl hx0
          | cons a t => rfl
        have HX0 := Lib.hid hx0
        have HL0 := Lib.hid (show ((wds (ps.take k)).map fun x => [kS x]).length ≤ 1000000000 by rw [List.length_map]; have := wds_len (ps.take k); rw [List.length_take] at this; omega)
        clear hx0
        go_wp2_with (refine wpList_appX rowS rfl (.tmp 20) (.tmp 25) rfl (p := [.string ⟨x.toArray⟩]) (b := wr.heap.size) (off := 0) (c := 1) (HO.out.none (grown_alloc wr (.cells #[.string ⟨x.toArray⟩] 9) none)) (fun j v hj => by have := (CB.new wr 9 [.string ⟨x.toArray⟩]).at_ hj; rwa [Nat.zero_add]) rfl (by simp [Value.oneCell']) (by first | rfl | go_simp) (by first | rfl | go_simp) HL0.out (by rw [World.size_alloc]; have := HW.out.size; omega) ?_
                     intro v' w5 h5 g5 a5
                     have RL5 := Lib.hid h5
                     have RP5 := Lib.hid ((HP.out.none (grown_alloc wr (.cells #[.string ⟨x.toArray⟩] 9) none)).kept g5 (.inr (fun e => HN.out g e.symm rfl)))
                     have HN5 := Lib.hid (show ∀ h, v'.ownBlock = some h → h ≠ g from fun h hh => by
                       rcases a5 with e | e
                       · exact HN.out h (e.symm.trans hh)
                       · have h1 := (HP.out.lt g rfl).2
                         rw [e, World.size_alloc] at hh
                         injection hh with hh
                         omega)
                     have W5 := Lib.hid (none_rowB (grown_trans' HW.out (grown_alloc wr (.cells #[.string ⟨x.toArray⟩] 9) none)) g5 (fun g hg => (HO.out.lt g hg).1))
                     clear h5 g5 a5)
        go_roundw
        case rel => exact ⟨k + 1, by go_num, by omega, by rw [HT.out, if_neg HX0.out, List.map_append]; exact RL5.out, RP5.out, HN5.out, W5.out⟩
        case measure => simp [intOf]; omega
    · have hki : ¬ (k : Int) < (m : Int) := by omega
      have HE := Lib.hid (show ps.take k = ps from List.take_of_length_le (by rw [HM.out]; omega))
      go_wp2
      go_ret
      exact ⟨_, rfl, by have h := HO.out; rw [HE.out] at h; exact h, HW.out⟩
end Go.Proofs.YtlkchajkhplapaaGreatDoor
namespace Go.Proofs.YtlkchajkhplapaaGreatDoor
open Go.RowKit Go.Shelf
attribute [local go_sem] Oper.semAt_some

structure CapB (W : World) (p b q : Nat) (s : ByteArray) : Prop where
  sep : W.heap[p]? = some (.cells #[.string ⟨#[32]⟩] 9 (0, 0))
  left : W.heap[b]? = some (.cells #[.string s] 9 (0, 0))
  save : W.heap[q]? = some (.cells #[.int .i64 0] 3 (0, 0))
theorem CapB.set {W : World} {p b q : Nat} {s : ByteArray} (h : CapB W p b q s) (hp : p ≠ b) (hq : q ≠ b) (u : ByteArray) : CapB (W.setCell ⟨b, 0, none⟩ (.string u)) p b q u :=
  ⟨(Below.heap_setCell W ⟨b, 0, none⟩ _ p hp).trans h.sep, heap_setCell1 h.left, (Below.heap_setCell W ⟨b, 0, none⟩ _ q hq).trans h.save⟩

set_option maxRecDepth 100000 in
set_option maxHeartbeats 2000000 in
theorem seq1B_any (n l p b q : Nat) (s0 : ByteArray) (hpb : p ≠ b) (hqb : q ≠ b) (hs0 : s0.size ≤ 1000000) (hn : 1 ≤ n) (J Jx : List (List UInt8) → World → Prop)
    (hJ : ∀ pre W u, J pre W → J pre (W.setCell ⟨b, 0, none⟩ (.string u)))
    (hY : ∀ pre (x : ByteArray) W s, J pre W → CapB W p b q s → x.size ≤ 1000000 → (pre ++ [x.data.toList]) <+: pieces1 32 s0.data.toList → YieldAt Fence.wide (n - 1) Tryz.prog l #[.string x] W fun e W' =>
      (e = .returned (.bool true) ∧ J (pre ++ [x.data.toList]) W' ∧ CapB W' p b q s) ∨ (e = .returned (.bool false) ∧ Jx (pre ++ [x.data.toList]) W'))
    (W : World) (hC : CapB W p b q s0) (h0 : J [] W) :
    CallsIn Fence.wide n Tryz.prog 113 #[.func (.yield l) #[] #[], .pointer (some ⟨p, 0, none⟩), .pointer (some ⟨b, 0, none⟩), .pointer (some ⟨q, 0, none⟩)] W fun e W' => (∃ v, e = .returned v) ∧
      (J (pieces1 32 s0.data.toList) W' ∨ (∃ pre, pre <+: pieces1 32 s0.data.toList ∧ Jx pre W')) := by
  refine callsIn_of_wp Tryz.func113 rfl trivial ?_ rfl
  simp only [Tryz.ntmps113, List.size_toArray, List.length_cons, List.length_nil, Nat.reduceAdd, Nat.reduceSub, Array.replicate_succ, Array.replicate_zero, List.push_toArray, List.append_toArray, List.nil_append, List.cons_append]
  have c1 := cell_box hC.sep
  have c2 := cell_box hC.left
  have c3 := cell_box hC.save
  have hz : ((ByteArray.mk #[32]).size : Int) = 1 := rfl
  gi_wp2
  gi_loopw [7] (fun _ wr => ∃ (pre : List (List UInt8)) (s : ByteArray), pieces1 32 s0.data.toList = pre ++ pieces1 32 s.data.toList ∧ s.size ≤ 1000000 ∧ CapB wr p b q s ∧ J pre wr)
    (fun _ wr => match wr.cell? ⟨b, 0, none⟩ with | some (.string s) => s.size | _ => 0)
  case atStart =>
    exact ⟨[], s0, rfl, hs0, hC, h0⟩
  case round =>
    obtain ⟨pre, s, hp, hs, hC, hJs⟩ := hrel
    clear c1 c2 c3
    have c1 := cell_box hC.sep
    have c2 := cell_box hC.left
    have c3 := cell_box hC.save
    rcases index_two s.data.toList 32 with ⟨hi, hn⟩ | ⟨k, hi, hk, hn, he⟩
    · have HI := Lib.hid hi
      have HP := Lib.hid (show pieces1 32 s0.data.toList = pre ++ [s.data.toList] by rw [hp, pieces1_none _ _ hn])
      have hY1 := hY pre s wr s hJs hC hs (by rw [HP.out]; exact List.prefix_refl _)
      obtain ⟨fn, tmps, assign, body, hy, hR⟩ := hY1
      clear hi hn hp
      gi_wp2_with (refine ⟨trivial, ?_⟩; gi_at_call 110; refine (callsIn_wide.2 (sh_strings_Index_one s 32 _)).mono ?_; rintro e w1 ⟨rfl, rfl⟩; rw [HI.out])
      refine hR.mono ?_
      rintro e W3 (⟨rfl, hJ3, hC3⟩ | ⟨rfl, hJ3⟩)
      · gi_wp2
        go_end0
        exact ⟨⟨_, rfl⟩, .inl (by rw [HP.out]; exact hJ3)⟩
      · gi_wp2
        go_end0
        exact ⟨⟨_, rfl⟩, .inr ⟨_, by rw [HP.out]; exact List.prefix_refl _, hJ3⟩⟩
    · have hsz : s.size = s.data.toList.length := rfl
      have hx1 : (s.extract 0 k).data.toList = s.data.toList.take k := by rw [ext_data s _ rfl, List.drop_zero]
      have hx2 : (s.extract (k + 1) s.size).data.toList = s.data.toList.drop (k + 1) := by rw [ext_data s _ rfl, List.take_of_length_le (by omega)]
      have HI := Lib.hid hi
      have HP := Lib.hid (show pieces1 32 s0.data.toList = (pre ++ [(s.extract 0 k).data.toList]) ++ pieces1 32 (s.extract (k + 1) s.size).data.toList by
        rw [hp, hx1, hx2, List.append_assoc, List.singleton_append, ← pieces1_at 32 _ _ hn, ← he])
      have HS := Lib.hid (show (s.extract (k + 1) s.size).size ≤ 1000000 by rw [ByteArray.size_extract]; omega)
      have HM := Lib.hid (show (s.extract (k + 1) s.size).size < s.size by rw [ByteArray.size_extract]; omega)
      have hY1 := hY pre (s.extract 0 k) wr s hJs hC (by rw [ByteArray.size_extract]; omega) (by rw [HP.out]; exact List.prefix_append _ _)
      obtain ⟨fn, tmps, assign, body, hy, hR⟩ := hY1
      have hk1 : (k : Int) + 1 ≤ (s.size : Int) := by omega
      have hk0 : ¬ (k : Int) < 0 := by omega
      have hlim : (s.size : Int) ≤ 1000000 := by omega
      clear hi hn hp he hx1 hx2 hsz hk
      gi_wp2_with (refine ⟨trivial, ?_⟩; gi_at_call 110; refine (callsIn_wide.2 (sh_strings_Index_one s 32 _)).mono ?_; rintro e w1 ⟨rfl, rfl⟩; rw [HI.out])
      refine hR.mono ?_
      rintro e W3 (⟨rfl, hJ3, hC3⟩ | ⟨rfl, hJ3⟩)
      · have d1 := cell_box hC3.sep
        have d2 := cell_box hC3.left
        have d3 := cell_box hC3.save
        gi_wp2
        go_roundw
        case rel => exact ⟨_, _, HP.out, HS.out, hC3.set hpb hqb _, hJ _ _ _ hJ3⟩
        case measure => rw [(cell_box (heap_setCell1 hC3.left)).1, c2.1]; exact HM.out
      · gi_wp2
        refine bodyPost_ret (results_none rfl _ _ _) rfl ?_
        exact ⟨⟨_, rfl⟩, .inr ⟨_, by rw [HP.out]; exact List.prefix_append _ _, hJ3⟩⟩
def capWB (w : World) (s : ByteArray) : World := ((w.alloc (.cells #[.string s] 9)).alloc (.cells #[.string ⟨#[32]⟩] 9)).alloc (.cells #[.int .i64 0] 3)
theorem CapB.of_new (w : World) (s : ByteArray) : CapB (capWB w s) (w.heap.size + 1) w.heap.size (w.heap.size + 2) s := by
  have h1 := World.alloc_heap_new w (.cells #[.string s] 9)
  have h2 := World.alloc_heap_new (w.alloc (.cells #[.string s] 9)) (.cells #[.string ⟨#[32]⟩] 9)
  have h3 := World.alloc_heap_new ((w.alloc (.cells #[.string s] 9)).alloc (.cells #[.string ⟨#[32]⟩] 9)) (.cells #[.int .i64 0] 3)
  rw [World.size_alloc] at h2
  rw [World.size_alloc, World.size_alloc] at h3
  exact ⟨(Below.heap_alloc _ _ _ (by rw [World.size_alloc, World.size_alloc]; omega)).trans h2,
    (Below.heap_alloc _ _ _ (by rw [World.size_alloc, World.size_alloc]; omega)).trans ((Below.heap_alloc _ _ _ (by rw [World.size_alloc]; omega)).trans h1), h3⟩
theorem splitSeqB_any (w : World) (s : ByteArray) :
    Calls Tryz.prog 94 #[.string s, .string ⟨#[32]⟩, .int .i64 0] w fun e w' => e = .returned (.func (.func 113) #[] #[.pointer (some ⟨w.heap.size + 1, 0, none⟩), .pointer (some ⟨w.heap.size, 0, none⟩), .pointer (some ⟨w.heap.size + 2, 0, none⟩)]) ∧ w' = capWB w s := by
  go_enter Tryz.func94, Tryz.ntmps94
  go_wp2
  go_ret
  exact ⟨rfl, rfl⟩
theorem SplitSeqB_any (w : World) (s : ByteArray) :
    Calls Tryz.prog 75 #[.string s, .string ⟨#[32]⟩] w fun e w' => e = .returned (.func (.func 113) #[] #[.pointer (some ⟨w.heap.size + 1, 0, none⟩), .pointer (some ⟨w.heap.size, 0, none⟩), .pointer (some ⟨w.heap.size + 2, 0, none⟩)]) ∧ w' = capWB w s := by
  go_enter Tryz.func75, Tryz.ntmps75
  go_wp2_with (go_at_call 94; refine (splitSeqB_any _ _).mono ?_; rintro e w1 ⟨rfl, rfl⟩)
  go_ret
  exact ⟨rfl, rfl⟩

theorem CapB.put {W : World} {p b q : Nat} {s : ByteArray} (h : CapB W p b q s) {l : Nat} (h1 : p ≠ l) (h2 : b ≠ l) (h3 : q ≠ l) (o : Obj) : CapB (W.putObj l o) p b q s :=
  ⟨(World.putObj_heap_other h1).trans h.sep, (World.putObj_heap_other h2).trans h.left, (World.putObj_heap_other h3).trans h.save⟩
theorem CapB.other {W : World} {p b q : Nat} {s : ByteArray} (h : CapB W p b q s) {R0 : Nat} (h1 : p ≠ R0) (h2 : b ≠ R0) (h3 : q ≠ R0) (u : Value) : CapB (W.setCell ⟨R0, 0, none⟩ u) p b q s :=
  ⟨(Below.heap_setCell W ⟨R0, 0, none⟩ _ p h1).trans h.sep, (Below.heap_setCell W ⟨R0, 0, none⟩ _ b h2).trans h.left, (Below.heap_setCell W ⟨R0, 0, none⟩ _ q h3).trans h.save⟩
end Go.Proofs.YtlkchajkhplapaaGreatDoor
