/- The walk of the document's Get (base). -/
import Derived.Test.YtejmbabeniekhaaDoorBpa
namespace Go.Proofs.YtejmbabeniekhaaDoor
open Go.RowKit Go.Maps

theorem run_buildE0 (w : World) : (Instr.build 51 #[]).run Tryd.prog w = .ok (.agg (enC zeroEn).toArray) w := by kernel_rfl
theorem at_is (w : World) (B m : Nat) (E : List En) (h : LS w B m E) (nm : List UInt8) (k : Int) (hk : atI (atS nmE E nm) = k) :
    Calls Tryd.prog 55 #[.pointer (some ⟨m, 0, none⟩), strV nm] w fun e w' => e = .returned (.int .i64 k) ∧ w' = w := by
  rw [← hk]
  exact at_any w B m E h nm
/-- An element, where it lies. -/
theorem ls_elem {w : World} {B m : Nat} {E : List En} {i : Nat} {x : En} (h : LS w B m E) (hx : E[i]? = some x) : ∃ ab ao cap, CB w m 47 [.slice (some ⟨ab, ao, none⟩) E.length cap] ∧ (∀ j v, (enC x)[j]? = some v → w.cell? ⟨ab, ao + i * 20 + j, none⟩ = some v) ∧ i < E.length ∧ E.length ≤ 16 ∧ enOk x := by
  obtain ⟨A, cap, hb, -, hs⟩ := h.open_
  obtain ⟨hi, hxe⟩ := List.getElem?_eq_some_iff.1 hx
  obtain ⟨ab, ao, rfl, -, hc⟩ := hs.elem (k := i) (by rw [List.length_map]; exact hi)
  refine ⟨ab, ao, cap, hb, fun j v hj => ?_, hi, h.2.2.2, h.2.2.1 x (List.mem_of_getElem? hx)⟩
  rw [Nat.mul_comm]
  exact hc j v (by rw [List.getElem_map, hxe]; exact hj)

set_option maxRecDepth 10000 in
set_option maxHeartbeats 1000000 in
theorem refGet_any (w : World) (B m : Nat) (E : List En) (h : LS w B m E) (n : List UInt8) :
    Calls Tryd.prog 27 #[.pointer (some ⟨m, 0, none⟩), strV n] w fun e w' => e = .returned (.tuple #[enV (getS E n).1, .bool (getS E n).2]) ∧ w.grownBy w' none := by
  have HLZ := Lib.hid (enC_length (e := zeroEn) (zeros_length 16))
  have G0 := Lib.hid (grown_alloc w (.cells (enC zeroEn).toArray 51) none)
  have Z0 := Lib.hid (CB.new w 51 (enC zeroEn))
  have S0 := Lib.hid (h.none G0.out)
  cases ha : atS nmE E n with
  | none =>
    have hg : getS E n = (zeroEn, false) := by unfold getS; rw [ha]
    rw [hg]
    have HA := Lib.hid (show atI (atS nmE E n) = -1 by rw [ha]; rfl)
    clear h hg ha
    unfold strV
    go_enter Tryd.func27, Tryd.ntmps27
    go_wp2_with (first
      | refine wpList_allocC zeroE_run rfl rfl ?_
      | (go_at_call 55; refine (at_is _ B m E S0.out n (-1) HA.out).mono ?_; rintro r wn ⟨rfl, rfl⟩)
      | refine wpList_buildV rfl rfl (by first | rfl | (go_simp; rfl)) (run_buildE0 _) ?_
      | (refine wpList_storeC (off := 0) (p := enC zeroEn) aggE.hi rfl (.tmp 4) (.tmp 22) rfl (.agg (enC zeroEn).toArray) rfl (enC_one zeroEn) Z0.out HLZ.out (by rw [HLZ.out]; omega) (by first | rfl | go_simp) (by first | rfl | go_simp) ?_; intro w3 h3 g3; rw [over_all _ _ (Nat.le_refl _)] at h3; have C3 := Lib.hid h3; have G3 := Lib.hid (none_new G0.out g3 (Nat.le_refl _)); clear h3 g3))
    refine bodyPost_ret (results_C2 rfl _ aggE C3.out HLZ.out rfl rfl) rfl ⟨rfl, G3.out⟩
  | some i =>
    obtain ⟨x, hx, hn, -⟩ := atS_some ha
    have hgd : E.getD i zeroEn = x := by rw [List.getD_eq_getElem?_getD, hx]; rfl
    have HA := Lib.hid (show atI (atS nmE E n) = (i : Int) by rw [ha]; rfl)
    obtain ⟨ab, ao, cap, hcb, hcells, hil, h16, hok⟩ := ls_elem S0.out hx
    obtain ⟨nE, hnE⟩ : ∃ k, E.length = k := ⟨_, rfl⟩
    rw [hnE] at hcb hil h16
    have hili : (i : Int) < (nE : Int) := by omega
    have q0 := hcb.at_ (i := 0) (v := .slice (some ⟨ab, ao, none⟩) nE cap) rfl
    have q1 := hcells 19 _ (enC_off hok.lk)
    have HC := Lib.hid hcells
    have HLX := Lib.hid (enC_length hok.lk)
    have hlt0 : ¬ ((i : Int) < 0) := by omega
    cases ho : x.2.2.2.2 with
    | true =>
      have hg : getS E n = (zeroEn, false) := by unfold getS; rw [ha]; simp only [hgd]; rw [if_pos ho]
      rw [hg]
      rw [ho] at q1
      clear h hg ha hn hgd hx hcb hcells hok ho
      unfold strV
      go_enter Tryd.func27, Tryd.ntmps27
      go_wp2_with (first
        | refine wpList_allocC zeroE_run rfl rfl ?_
        | (go_at_call 55; refine (at_is _ B m E S0.out n (i : Int) HA.out).mono ?_; rintro r wn ⟨rfl, rfl⟩)
        | refine wpList_buildV rfl rfl (by first | rfl | (go_simp; rfl)) (run_buildE0 _) ?_
        | (refine wpList_storeC (off := 0) (p := enC zeroEn) aggE.hi rfl (.tmp 4) (.tmp 22) rfl (.agg (enC zeroEn).toArray) rfl (enC_one zeroEn) Z0.out HLZ.out (by rw [HLZ.out]; omega) (by first | rfl | go_simp) (by first | rfl | go_simp) ?_; intro w3 h3 g3; rw [over_all _ _ (Nat.le_refl _)] at h3; have C3 := Lib.hid h3; have G3 := Lib.hid (none_new G0.out g3 (Nat.le_refl _)); clear h3 g3))
      refine bodyPost_ret (results_C2 rfl _ aggE C3.out HLZ.out rfl rfl) rfl ⟨rfl, G3.out⟩
    | false =>
      have hg : getS E n = (x, true) := by unfold getS; rw [ha]; simp only [hgd]; rw [if_neg (by rw [ho]; simp)]
      rw [hg]
      rw [ho] at q1
      clear h hg ha hn hgd hx hcb hcells hok ho
      unfold strV
      go_enter Tryd.func27, Tryd.ntmps27
      go_wp2_with (first
        | refine wpList_allocC zeroE_run rfl rfl ?_
        | (go_at_call 55; refine (at_is _ B m E S0.out n (i : Int) HA.out).mono ?_; rintro r wn ⟨rfl, rfl⟩)
        | refine wpList_loadX (p := enC x) aggE rfl (.tmp 28) rfl (b := ab) (off := ao + i * 20) HC.out HLX.out (by first | rfl | go_simp) ?_
        | (refine wpList_storeC (off := 0) (p := enC x) aggE.hi rfl (.tmp 4) (.tmp 29) rfl (.agg (enC x).toArray) rfl (enC_one x) Z0.out HLX.out (by rw [HLZ.out]; omega) (by first | rfl | go_simp) (by first | rfl | go_simp) ?_; intro w3 h3 g3; rw [over_all _ _ (by first | exact Nat.le_refl _ | exact Nat.le_of_eq (by rw [HLZ.out, HLX.out]))] at h3; have C3 := Lib.hid h3; have G3 := Lib.hid (none_new G0.out g3 (Nat.le_refl _)); clear h3 g3))
      refine bodyPost_ret (results_C2 rfl _ aggE C3.out HLX.out rfl rfl) rfl ⟨rfl, G3.out⟩
end Go.Proofs.YtejmbabeniekhaaDoor
