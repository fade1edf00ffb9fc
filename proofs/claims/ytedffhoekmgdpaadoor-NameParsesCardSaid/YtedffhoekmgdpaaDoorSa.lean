/- The walks of Same, of the program and of the document. -/
import Derived.Test.YtedffhoekmgdpaaDoorRr
import Derived.Test.YtedffhoekmgdpaaDoorShf
import Derived.BigRegion
namespace Go.Proofs.YtedffhoekmgdpaaDoor
open Go.RowKit

def sameOf (ls1 : List ByteArray) (r1 : ByteArray) (ls2 : List ByteArray) (r2 : ByteArray) : Bool := decide (r1 = r2) && decide (ls1 = ls2)
theorem str_ne {a b : ByteArray} (h : a ≠ b) : (a.toList == b.toList) = false := by
  rw [beq_eq_false_iff_ne, ByteArray.toList_eq, ByteArray.toList_eq]
  intro e
  exact h (ByteArray.ext (Array.ext' e))
theorem getD_of {ls : List ByteArray} {j : Nat} (h : j < ls.length) : ls.getD j ByteArray.empty = ls[j] := by simp [List.getD, List.getElem?_eq_getElem h]
theorem below_drewN {B : Nat} {w w' : World} (h : Below B w w') (q : Nat) : Below B w (w'.drewN q) := h.trans ⟨rfl, rfl, rfl, Nat.le_refl _, fun _ _ => rfl⟩

set_option maxHeartbeats 400000 in
theorem same_any (A1 A2 : Option Addr) (ls1 ls2 : List ByteArray) (c1 c2 : Nat) (r1 r2 : ByteArray) (w : World) (h1 : RS w w.heap.size A1 ls1 c1) (h2 : RS w w.heap.size A2 ls2 c2) (n1 n2 : Nat) (hn1 : ls1.length = n1) (hn2 : ls2.length = n2) (hb1 : n1 < 1000000) :
    Calls Tryd.prog 17 #[.agg #[.slice A1 n1 c1, .string r1], .agg #[.slice A2 n2 c2, .string r2]] w fun e w' => e = .returned (.bool (sameOf ls1 r1 ls2 r2)) ∧ Below w.heap.size w w' := by
  have hbe := ((Below.refl w.heap.size w).alloc (Nat.le_refl _) (.cells #[.slice A1 n1 c1, .string r1] 24)).alloc (by rw [World.size_alloc]; omega) (.cells #[.slice A2 n2 c2, .string r2] 24)
  have HBE := Lib.hid hbe
  clear hbe
  by_cases hr : r1 = r2
  · subst hr
    rw [sameOf, decide_eq_true (rfl : r1 = r1), Bool.true_and]
    by_cases hnm : n1 = n2
    · subst hnm
      by_cases h0 : n1 = 0
      · subst h0
        have e1 := List.eq_nil_of_length_eq_zero hn1
        have e2 := List.eq_nil_of_length_eq_zero hn2
        subst e1 e2
        rw [decide_eq_true rfl]
        clear h1 h2
        go_enter Tryd.func17, Tryd.ntmps17
        go_wp2_with (go_at_call 24; refine (sh_slices_Equal_string_empty A1 A2 c1 0 c2 _ (by omega)).mono ?_; rintro e w1 ⟨rfl, rfl⟩)
        go_ret
        exact ⟨rfl, HBE.out⟩
      · obtain ⟨b1, o1, rfl, hbb1, hc1⟩ := h1.open_ (by omega)
        obtain ⟨b2, o2, rfl, hbb2, hc2⟩ := h2.open_ (by omega)
        have HC1 := Lib.hid (fun (u v : Obj) j (hj : j < ls1.length) => show ((w.alloc u).alloc v).cell? ⟨b1, o1 + j, none⟩ = some (.string (ls1.getD j ByteArray.empty)) by rw [getD_of hj]; exact cell_alloc (cell_alloc (hc1 j hj) _) _)
        have HC2 := Lib.hid (fun (u v : Obj) j (hj : j < ls2.length) => show ((w.alloc u).alloc v).cell? ⟨b2, o2 + j, none⟩ = some (.string (ls2.getD j ByteArray.empty)) by rw [getD_of hj]; exact cell_alloc (cell_alloc (hc2 j hj) _) _)
        have HT := Lib.hid (show decide (ls1.take n1 = ls2.take n1) = decide (ls1 = ls2) by rw [List.take_of_length_le (by omega), List.take_of_length_le (by omega)])
        have HN1 := Lib.hid hn1
        have HN2 := Lib.hid hn2
        clear h1 h2 hc1 hc2 hn1 hn2
        generalize decide (ls1 = ls2) = d at *
        go_enter Tryd.func17, Tryd.ntmps17
        go_wp2_with (go_at_call 24; refine (sh_slices_Equal_string b1 o1 n1 c1 b2 o2 n1 c2 ls1 ls2 _ (by rw [HN1.out]; omega) (by rw [HN2.out]; omega) (by omega) (by omega) (HC1.out _ _) (HC2.out _ _)).mono ?_; rintro e w1 ⟨rfl, q, rfl⟩; rw [HT.out])
        go_ret
        exact ⟨rfl, below_drewN HBE.out q⟩
    · rw [decide_eq_false (show ¬ ls1 = ls2 from fun e => hnm (by rw [← hn1, ← hn2, e]))]
      have hnmi : ¬ (n1 : Int) = (n2 : Int) := by omega
      clear h1 h2 hn1 hn2
      go_enter Tryd.func17, Tryd.ntmps17
      go_wp2_with (go_at_call 24; refine (sh_slices_Equal_string_lens A1 A2 n1 c1 n2 c2 _ hnm).mono ?_; rintro e w1 ⟨rfl, rfl⟩)
      go_ret
      exact ⟨rfl, HBE.out⟩
  · rw [sameOf, decide_eq_false hr, Bool.false_and]
    have hne := str_ne hr
    clear h1 h2 hn1 hn2
    go_enter Tryd.func17, Tryd.ntmps17
    go_wp2
    go_ret
    exact ⟨rfl, HBE.out⟩

theorem take_same (l m : List ByteArray) (k : Nat) (h1 : k < l.length) (h2 : k < m.length) (h : l.take k = m.take k) (hx : l[k] = m[k]) : l.take (k + 1) = m.take (k + 1) := by
  rw [List.take_succ_eq_append_getElem h1, List.take_succ_eq_append_getElem h2, h, hx]
set_option maxHeartbeats 400000 in
theorem refSame_any (A1 A2 : Option Addr) (ls1 ls2 : List ByteArray) (c1 c2 : Nat) (r1 r2 : ByteArray) (w : World) (h1 : RS w w.heap.size A1 ls1 c1) (h2 : RS w w.heap.size A2 ls2 c2) (n1 n2 : Nat) (hn1 : ls1.length = n1) (hn2 : ls2.length = n2) (hb1 : n1 < 1000000) :
    Calls Tryd.prog 15 #[.agg #[.slice A1 n1 c1, .string r1], .agg #[.slice A2 n2 c2, .string r2]] w fun e w' => e = .returned (.bool (sameOf ls1 r1 ls2 r2)) ∧ Below w.heap.size w w' := by
  have hbe := ((Below.refl w.heap.size w).alloc (Nat.le_refl _) (.cells #[.slice A1 n1 c1, .string r1] 24)).alloc (by rw [World.size_alloc]; omega) (.cells #[.slice A2 n2 c2, .string r2] 24)
  have HBE := Lib.hid hbe
  clear hbe
  by_cases hr : r1 = r2
  · subst hr
    rw [sameOf, decide_eq_true (rfl : r1 = r1), Bool.true_and]
    by_cases hnm : n1 = n2
    · subst hnm
      have HN1 := Lib.hid hn1
      have HN2 := Lib.hid hn2
      have H1 := Lib.hid h1
      have H2 := Lib.hid h2
      clear h1 h2 hn1 hn2
      go_enter Tryd.func15, Tryd.ntmps15
      go_wp2
      go_loopw [5] (fun i wr => ∃ k q : Nat, i = .int .i64 k ∧ k ≤ n1 ∧ ls1.take k = ls2.take k ∧ wr = ((w.alloc (.cells #[.slice A1 n1 c1, .string r1] 24)).alloc (.cells #[.slice A2 n1 c2, .string r1] 24)).drewN q) (fun i _ => n1 - (intOf i).toNat)
      case atStart => exact ⟨0, 0, rfl, by omega, rfl, rfl⟩
      case round =>
        obtain ⟨k, q, rfl, hk, ha, rfl⟩ := hrel
        by_cases hlt : k < n1
        · have hki : (k : Int) < (n1 : Int) := by omega
          obtain ⟨b1, o1, rfl, hbb1, hc1⟩ := H1.out.open_ (by rw [HN1.out]; omega)
          obtain ⟨b2, o2, rfl, hbb2, hc2⟩ := H2.out.open_ (by rw [HN2.out]; omega)
          have hd1 := hc1 k (by rw [HN1.out]; exact hlt)
          have hd2 := hc2 k (by rw [HN2.out]; exact hlt)
          have HX := Lib.hid (take_same ls1 ls2 k (by rw [HN1.out]; exact hlt) (by rw [HN2.out]; exact hlt) ha)
          have HY := Lib.hid (show ls1[k]'(by rw [HN1.out]; exact hlt) ≠ ls2[k]'(by rw [HN2.out]; exact hlt) → decide (ls1 = ls2) = false from fun h => decide_eq_false (fun e => h (by subst e; rfl)))
          generalize ls1[k]'(by rw [HN1.out]; exact hlt) = s1 at *
          generalize ls2[k]'(by rw [HN2.out]; exact hlt) = s2 at *
          clear hc1 hc2 ha
          by_cases he : s1 = s2
          · subst he
            go_wp2_with fail
            go_region
            all_goals go_wp2
            all_goals go_roundw
            case rel => exact ⟨k + 1, q + 1, by go_num, by omega, HX.out trivial, rfl⟩
            case measure => simp [intOf]; omega
          · have hne := str_ne he
            go_wp2_with fail
            go_region
            all_goals go_wp2
            all_goals go_ret
            all_goals exact ⟨by rw [HY.out he]; rfl, below_drewN HBE.out _⟩
        · have hki : ¬ (k : Int) < (n1 : Int) := by omega
          have HF := Lib.hid (show decide (ls1 = ls2) = true from decide_eq_true (by rw [List.take_of_length_le (by rw [HN1.out]; omega), List.take_of_length_le (by rw [HN2.out]; omega)] at ha; exact ha))
          clear ha
          go_wp2
          go_ret
          exact ⟨by rw [HF.out]; rfl, below_drewN HBE.out _⟩
    · rw [decide_eq_false (show ¬ ls1 = ls2 from fun e => hnm (by rw [← hn1, ← hn2, e]))]
      have hnmi : ((n1 : Int) == (n2 : Int)) = false := by rw [beq_eq_false_iff_ne]; omega
      clear h1 h2 hn1 hn2
      go_enter Tryd.func15, Tryd.ntmps15
      go_wp2
      go_ret
      exact ⟨rfl, HBE.out⟩
  · rw [sameOf, decide_eq_false hr, Bool.false_and]
    have hne := str_ne hr
    clear h1 h2 hn1 hn2
    go_enter Tryd.func15, Tryd.ntmps15
    go_wp2
    go_ret
    exact ⟨rfl, HBE.out⟩
end Go.Proofs.YtedffhoekmgdpaaDoor
