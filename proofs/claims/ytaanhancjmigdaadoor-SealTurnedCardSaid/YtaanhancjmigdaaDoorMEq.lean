/- The walk of mac.Equal. -/
import Derived.Test.YtaanhancjmigdaaDoorMC
namespace Go.Proofs.YtaanhancjmigdaaDoor
open Go.RowKit

/-- The bits in which two texts differ, byte upon byte. -/
def diffTo (a b : List UInt8) : Nat → UInt8
  | 0 => 0
  | k + 1 => diffTo a b k ||| (a.getD k 0 ^^^ b.getD k 0)
theorem or_u8 (a b : UInt8) : bits .or .u8 (a.toNat : Int) (b.toNat : Int) = ((a ||| b).toNat : Int) := by
  show IntKind.u8.wrap ((BitVec.ofInt 8 (a.toNat : Int) ||| BitVec.ofInt 8 (b.toNat : Int)).toNat : Int) = _
  rw [u8_ofInt, u8_ofInt]
  exact u8_wrap (a ||| b)
theorem or_zero (a b : UInt8) : a ||| b = 0 ↔ a = 0 ∧ b = 0 := by
  constructor
  · intro h
    have h' : a.toNat ||| b.toNat = 0 := by rw [← UInt8.toNat_or, h]; rfl
    exact ⟨UInt8.toNat_inj.1 (Nat.or_eq_zero_iff.1 h').1, UInt8.toNat_inj.1 (Nat.or_eq_zero_iff.1 h').2⟩
  · rintro ⟨rfl, rfl⟩; rfl
theorem xor_zero (a b : UInt8) : a ^^^ b = 0 ↔ a = b := UInt8.xor_eq_zero_iff
theorem diffTo_zero (a b : List UInt8) : ∀ k, diffTo a b k = 0 ↔ ∀ i, i < k → a.getD i 0 = b.getD i 0
  | 0 => ⟨fun _ i hi => by omega, fun _ => rfl⟩
  | k + 1 => by
    rw [diffTo, or_zero, xor_zero, diffTo_zero a b k]
    constructor
    · rintro ⟨h, h2⟩ i hi
      by_cases e : i = k
      · subst e; exact h2
      · exact h i (by omega)
    · exact fun h => ⟨fun i hi => h i (by omega), h k (by omega)⟩
theorem diffTo_eq (a b : List UInt8) (h : a.length = b.length) : diffTo a b a.length = 0 ↔ a = b := by
  rw [diffTo_zero]
  constructor
  · intro hi
    apply List.ext_getElem h
    intro i h1 h2
    have := hi i h1
    rwa [List.getD, List.getD, List.getElem?_eq_getElem h1, List.getElem?_eq_getElem h2] at this
  · rintro rfl i _; rfl

set_option maxHeartbeats 400000 in
theorem equal_any (n1 cap1 n2 cap2 : Nat) (A1 A2 : Option Addr) (l1 l2 : List UInt8) (w : World) (hn1 : l1.length = n1) (hm1 : n1 < 4611686018427387904) (h1 : RB w w.heap.size A1 l1 cap1) (hn2 : l2.length = n2) (hm2 : n2 < 4611686018427387904) (h2 : RB w w.heap.size A2 l2 cap2) :
    Calls Tryd.prog 49 #[.slice A1 n1 cap1, .slice A2 n2 cap2] w fun e w' => e = .returned (.bool (decide (l1 = l2))) ∧ w.grownBy w' none := by
  have HN1 := Lib.hid hn1
  have HN2 := Lib.hid hn2
  have H1 := Lib.hid h1
  have H2 := Lib.hid h2
  by_cases hl : n1 = n2
  · subst hl
    obtain ⟨r, hr⟩ : ∃ r, r = decide (l1 = l2) := ⟨_, rfl⟩
    rw [← hr]
    have HR := Lib.hid hr
    clear hn1 hn2 h1 h2 hr hm2
    go_enter Tryd.func49, Tryd.ntmps49
    go_wp2
    go_loopw [5, 14] (fun d i wr => ∃ k : Nat, i = .int .i64 k ∧ k ≤ n1 ∧ d = .int .u8 ((diffTo l1 l2 k).toNat : Int) ∧ w.grownBy wr none) (fun _ i _ => n1 - (intOf i).toNat)
    case atStart => exact ⟨0, rfl, by omega, rfl, World.grownBy.refl _ _⟩
    case round =>
      obtain ⟨k, rfl, hk, rfl, hG⟩ := hrel
      by_cases hlt : k < n1
      · obtain ⟨b1, o1, rfl, hb1, hc1⟩ := H1.out.open_ (by rw [HN1.out]; omega)
        obtain ⟨b2, o2, rfl, hb2, hc2⟩ := H2.out.open_ (by rw [HN2.out]; omega)
        obtain ⟨x, hx⟩ : ∃ u, l1[k]? = some u := ⟨_, List.getElem?_eq_getElem (by rw [HN1.out]; omega)⟩
        obtain ⟨y, hy⟩ : ∃ u, l2[k]? = some u := ⟨_, List.getElem?_eq_getElem (by rw [HN2.out]; omega)⟩
        have hb := below_of_none hG
        have c1 := (hb.cell (p := ⟨b1, o1 + k, none⟩) hb1).trans (hc1 k (by rw [HN1.out]; exact hlt))
        have c2 := (hb.cell (p := ⟨b2, o2 + k, none⟩) hb2).trans (hc2 k (by rw [HN2.out]; exact hlt))
        rw [List.getElem?_eq_getElem (by rw [HN1.out]; exact hlt)] at hx
        rw [List.getElem?_eq_getElem (by rw [HN2.out]; exact hlt)] at hy
        have hx' := Option.some.inj hx
        have hy' := Option.some.inj hy
        rw [hx'] at c1
        rw [hy'] at c2
        have hnx : diffTo l1 l2 (k + 1) = diffTo l1 l2 k ||| (x ^^^ y) := by
          rw [diffTo, List.getD, List.getD, List.getElem?_eq_getElem (by rw [HN1.out]; exact hlt), List.getElem?_eq_getElem (by rw [HN2.out]; exact hlt), hx', hy']
          rfl
        have HNX := Lib.hid hnx
        have e1 := xor_u8 x y
        have e2 := or_u8 (diffTo l1 l2 k) (x ^^^ y)
        have HG := Lib.hid hG
        have HLT := Lib.hid hlt
        have hki : (k : Int) < (n1 : Int) := by omega
        clear hnx hG hb hb1 hb2 hc1 hc2 hx hy hx' hy' hlt
        generalize diffTo l1 l2 k ||| (x ^^^ y) = z at *
        generalize diffTo l1 l2 k = d at *
        generalize x ^^^ y = v at *
        go_wp2
        go_quiet (fail)
        have HGz := Lib.hid (grown_trans' HG.out (show wr.grownBy (wr.drewN nq) none from ⟨rfl, rfl, rfl, Nat.le_refl _, fun _ _ _ => rfl⟩))
        clear c1 c2
        generalize wr.drewN nq = wz at *
        go_wp2
        go_roundw
        case rel => exact ⟨k + 1, by go_num, by have := HLT.out; omega, by rw [HNX.out], HGz.out⟩
        case measure => have := HLT.out; simp [intOf]; omega
      · obtain rfl : k = n1 := by omega
        have HG := Lib.hid hG
        have hz := diffTo_eq l1 l2 (by rw [HN1.out, HN2.out])
        rw [HN1.out] at hz
        have HZ := Lib.hid hz
        clear hG hz
        generalize diffTo l1 l2 k = d at *
        go_wp2
        go_ret
        refine ⟨?_, HG.out⟩
        rw [HR.out]
        show Ending.returned (Value.bool ((d.toNat : Int) == 0)) = Ending.returned (Value.bool (decide (l1 = l2)))
        congr 2
        by_cases h : d = 0
        · rw [decide_eq_true (HZ.out.1 h), h]; rfl
        · rw [decide_eq_false (fun e => h (HZ.out.2 e)), beq_eq_false_iff_ne]
          intro e
          exact h (UInt8.toNat_inj.1 (by simpa using e))
  · have hli : ¬ ((n1 : Int) = (n2 : Int)) := by omega
    have hr : decide (l1 = l2) = false := by
      rw [decide_eq_false_iff_not]
      rintro rfl
      omega
    rw [hr]
    clear hn1 hn2 h1 h2 hl
    go_enter Tryd.func49, Tryd.ntmps49
    go_wp2
    go_ret
    exact ⟨rfl, World.grownBy.refl _ _⟩
end Go.Proofs.YtaanhancjmigdaaDoor
