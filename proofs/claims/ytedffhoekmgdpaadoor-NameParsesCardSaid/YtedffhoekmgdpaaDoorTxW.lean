/- The walk of NameTexts. -/
import Derived.Test.YtedffhoekmgdpaaDoorRt
import Derived.Test.YtedffhoekmgdpaaDoorSmW
namespace Go.Proofs.YtedffhoekmgdpaaDoor
open Go.RowKit

set_option maxRecDepth 10000 in
set_option maxHeartbeats 1000000 in
theorem walk_NameTexts (w : World) (hM : ML w) (A1 : Option Addr) (ls1 : List ByteArray) (c1 : Nat) (r1 : ByteArray) (h1 : RS w w.heap.size A1 ls1 c1) :
    Calls Tryd.prog 3 #[.agg #[.slice A1 ls1.length c1, .string r1]] w fun e w' => e = .returned (.bool true) ∧ Below w.heap.size w w' := by
  obtain ⟨n1, hn1⟩ : ∃ n, ls1.length = n := ⟨_, rfl⟩
  rw [hn1]
  have HN1 := Lib.hid hn1
  go_enter Tryd.func3, Tryd.ntmps3
  obtain ⟨W0, hW0⟩ : ∃ W, W = w.alloc (.cells #[.slice A1 n1 c1, .string r1] 24) := ⟨_, rfl⟩
  have HW0 := Lib.hid hW0
  have HQ1 := Lib.hid (show CB W0 w.heap.size 24 [.slice A1 n1 c1, .string r1] by rw [hW0]; exact CB.new w _ [.slice A1 n1 c1, .string r1])
  have HWW := Lib.hid (show Below w.heap.size w W0 by rw [hW0]; exact (Below.refl w.heap.size w).alloc (Nat.le_refl _) _)
  have HS1 := Lib.hid (h1.over HWW.out)
  have HM0 := Lib.hid (hM.below HWW.out)
  have q11 : ∀ wx, Below W0.heap.size W0 wx → wx.cell? ⟨w.heap.size, 0, none⟩ = some (.slice A1 n1 c1) := fun wx hx => (hx.cell HQ1.out.lt).trans (HQ1.out.at_ (i := 0) rfl)
  have q12 : ∀ wx, Below W0.heap.size W0 wx → wx.cell? ⟨w.heap.size, 1, none⟩ = some (.string r1) := fun wx hx => (hx.cell HQ1.out.lt).trans (HQ1.out.at_ (i := 1) rfl)
  clear h1 hn1 hM hW0
  cases hg1 : greatOf ls1 r1 with
  | true =>
    have HG1 := Lib.hid hg1
    clear hg1
    go_wp2_with (first
      | (go_at_call 8; rw [← HW0.out]; refine (speaks_any _ HM0.out).mono ?_; rintro e w1 ⟨rfl, hb1⟩; have HB1 := Lib.hid hb1; have e11_w1 := q11 _ HB1.out; have e12_w1 := q12 _ HB1.out; clear hb1)
      | (go_at_call 9; refine (great_any A1 ls1 c1 r1 _ ((HS1.out.below HB1.out).more HB1.out.size) n1 HN1.out).mono ?_; rintro e w2 ⟨rfl, hb2⟩; rw [HG1.out]; have HB2 := Lib.hid (HB1.out.trans (hb2.mono HB1.out.size)); have e11_w2 := q11 _ HB2.out; have e12_w2 := q12 _ HB2.out; clear hb2))
    go_ret
    exact ⟨rfl, HWW.out.trans (HB2.out.mono HWW.out.size)⟩
  | false =>
  obtain ⟨l1a, l1b, l1c⟩ := greatOf_not hg1
  have HP1 := Lib.hid (show ∀ s ∈ ls1, s.size ≤ 1000000 from fun s hs => Nat.le_trans (l1c s hs) (by omega))
  have HR1 := Lib.hid (show r1.size ≤ 1000000 by omega)
  have HL1 := Lib.hid (show n1 ≤ 20 by rw [← HN1.out]; exact l1a)
  have HG1 := Lib.hid hg1
  clear hg1 l1a l1b l1c
  cases hk1 : nameOk (dl ls1) r1.data.toList with
  | false =>
    have HK1 := Lib.hid hk1
    have te : (ByteArray.mk #[]).toList = [] := by rw [ByteArray.toList_eq]
    clear hk1
    go_wp2_with (first
      | (go_at_call 8; rw [← HW0.out]; refine (speaks_any _ HM0.out).mono ?_; rintro e w1 ⟨rfl, hb1⟩; have HB1 := Lib.hid hb1; have e11_w1 := q11 _ HB1.out; have e12_w1 := q12 _ HB1.out; clear hb1)
      | (go_at_call 9; refine (great_any A1 ls1 c1 r1 _ ((HS1.out.below HB1.out).more HB1.out.size) n1 HN1.out).mono ?_; rintro e w2 ⟨rfl, hb2⟩; rw [HG1.out]; have HB2 := Lib.hid (HB1.out.trans (hb2.mono HB1.out.size)); have e11_w2 := q11 _ HB2.out; have e12_w2 := q12 _ HB2.out; clear hb2)
      | (go_at_call 10; refine (text_any A1 ls1 c1 r1 _ ((HS1.out.below HB2.out).more HB2.out.size) HP1.out HR1.out n1 HN1.out (by have := HL1.out; omega)).mono ?_; rintro e w3 ⟨rfl, hb3⟩; rw [if_neg (by rw [HK1.out]; simp)]; have HB3 := Lib.hid (HB2.out.trans (hb3.mono HB2.out.size)); have e11_w3 := q11 _ HB3.out; have e12_w3 := q12 _ HB3.out; clear hb3)
      | (go_at_call 11; refine (right_any A1 ls1 c1 r1 _ ((HS1.out.below HB3.out).more HB3.out.size) HP1.out HR1.out n1 HN1.out).mono ?_; rintro e w4 ⟨rfl, hb4⟩; rw [HK1.out]; have HB4 := Lib.hid (HB3.out.trans (hb4.mono HB3.out.size)); have e11_w4 := q11 _ HB4.out; have e12_w4 := q12 _ HB4.out; clear hb4)
      | (go_at_call 12; refine (check_any A1 ls1 c1 r1 _ ((HS1.out.below HB4.out).more HB4.out.size) HP1.out HR1.out n1 HN1.out).mono ?_; rintro e w5 ⟨rfl, hb5⟩; rw [HK1.out]; rw [show errOf false = 30 from rfl]; have HB5 := Lib.hid (HB4.out.trans (hb5.mono HB4.out.size)); have e11_w5 := q11 _ HB5.out; have e12_w5 := q12 _ HB5.out; clear hb5))
    go_ret
    exact ⟨rfl, HWW.out.trans (HB5.out.mono HWW.out.size)⟩
  | true =>
    have HK1 := Lib.hid hk1
    obtain ⟨T1, hT1⟩ : ∃ T, T = textOf (dl ls1) r1.data.toList := ⟨_, rfl⟩
    have hpt := parse_text hk1
    rw [← hT1] at hpt
    have HPP := Lib.hid hpt.1
    have HPR := Lib.hid hpt.2.1
    have HPT := Lib.hid hpt.2.2
    have HTL := Lib.hid (show T1.length ≤ 1000000 by have := text_len hk1; rw [← hT1] at this; omega)
    have HT1 := Lib.hid hT1
    have tt : (T1 == T1) = true := beq_self_eq_true _
    clear hk1 hT1 hpt
    go_wp2_with (first
      | (go_at_call 8; rw [← HW0.out]; refine (speaks_any _ HM0.out).mono ?_; rintro e w1 ⟨rfl, hb1⟩; have HB1 := Lib.hid hb1; have e11_w1 := q11 _ HB1.out; have e12_w1 := q12 _ HB1.out; clear hb1)
      | (go_at_call 9; refine (great_any A1 ls1 c1 r1 _ ((HS1.out.below HB1.out).more HB1.out.size) n1 HN1.out).mono ?_; rintro e w2 ⟨rfl, hb2⟩; rw [HG1.out]; have HB2 := Lib.hid (HB1.out.trans (hb2.mono HB1.out.size)); have e11_w2 := q11 _ HB2.out; have e12_w2 := q12 _ HB2.out; clear hb2)
      | (go_at_call 10; refine (text_any A1 ls1 c1 r1 _ ((HS1.out.below HB2.out).more HB2.out.size) HP1.out HR1.out n1 HN1.out (by have := HL1.out; omega)).mono ?_; rintro e w3 ⟨rfl, hb3⟩; rw [if_pos HK1.out, ← HT1.out]; have HB3 := Lib.hid (HB2.out.trans (hb3.mono HB2.out.size)); have e11_w3 := q11 _ HB3.out; have e12_w3 := q12 _ HB3.out; clear hb3)
      | (go_at_call 11; refine (right_any A1 ls1 c1 r1 _ ((HS1.out.below HB3.out).more HB3.out.size) HP1.out HR1.out n1 HN1.out).mono ?_; rintro e w4 ⟨rfl, hb4⟩; rw [HK1.out]; have HB4 := Lib.hid (HB3.out.trans (hb4.mono HB3.out.size)); have e11_w4 := q11 _ HB4.out; have e12_w4 := q12 _ HB4.out; clear hb4)
      | (go_at_call 13; refine (parse_any ⟨T1.toArray⟩ T1 rfl _ (HM0.out.below HB4.out) HTL.out).mono ?_; intro e w5 hq; obtain ⟨g, n5, ls5, r5, rfl, hn5, -, hd5, hr5, hg5, -, hb5⟩ := hq.yes HPT.out; obtain rfl : ls5 = ls1 := dl_inj (hd5.trans HPP.out); obtain rfl : r5 = r1 := ba_inj (hr5.trans HPR.out); obtain rfl : n5 = n1 := hn5.symm.trans HN1.out; have HB5 := Lib.hid (HB4.out.trans (hb5.mono HB4.out.size)); have e11_w5 := q11 _ HB5.out; have e12_w5 := q12 _ HB5.out; have HG5 := Lib.hid hg5; have d1 := fun o => cell_alloc e11_w5 o; have d2 := fun o => cell_alloc e12_w5 o; clear hb5 hq hd5 hr5 hg5 hn5)
      | (go_at_call 12; refine (check_any A1 ls5 c1 r5 _ ((HS1.out.below (HB5.out.alloc HB5.out.size (.cells #[.slice (some ⟨g, 0, none⟩) n5 n5, .string r5] 24))).more (HB5.out.alloc HB5.out.size (.cells #[.slice (some ⟨g, 0, none⟩) n5 n5, .string r5] 24)).size) HP1.out HR1.out n5 HN1.out).mono ?_; rintro e w6 ⟨rfl, hb6⟩; rw [HK1.out]; rw [show errOf true = 0 from rfl]; have HB6 := Lib.hid ((HB5.out.alloc HB5.out.size (.cells #[.slice (some ⟨g, 0, none⟩) n5 n5, .string r5] 24)).trans (hb6.mono (HB5.out.alloc HB5.out.size (.cells #[.slice (some ⟨g, 0, none⟩) n5 n5, .string r5] 24)).size)); have e11_w6 := q11 _ HB6.out; have e12_w6 := q12 _ HB6.out; have HT5 := Lib.hid ((CB.new w5 24 [.slice (some ⟨g, 0, none⟩) n5 n5, .string r5]).below hb6 (by rw [World.size_alloc]; exact Nat.lt_succ_self _)); have HG6 := Lib.hid ((hb6.block g (by rw [World.size_alloc]; have := (Array.getElem?_eq_some_iff.1 HG5.out).1; omega)).trans ((Below.heap_alloc w5 _ _ (Array.getElem?_eq_some_iff.1 HG5.out).1).trans HG5.out)); clear hb6 d1 d2)
      | (go_at_call 14; refine (refText_any A1 ls5 c1 r5 _ ((HS1.out.below HB6.out).more HB6.out.size) HK1.out n5 HN1.out).mono ?_; rintro e w7 ⟨rfl, hb7⟩; rw [← HT1.out]; have HB7 := Lib.hid (HB6.out.trans (hb7.mono HB6.out.size)); have e11_w7 := q11 _ HB7.out; have e12_w7 := q12 _ HB7.out; have e51 := (hb7.cell HT5.out.lt).trans (HT5.out.at_ (i := 0) rfl); have e52 := (hb7.cell HT5.out.lt).trans (HT5.out.at_ (i := 1) rfl); have HG7 := Lib.hid ((hb7.block g (Array.getElem?_eq_some_iff.1 HG6.out).1).trans HG6.out); clear hb7)
      | (go_at_call 15; refine (refSame_any _ A1 ls5 ls5 n5 c1 r5 r5 _ (RS.of_heap HG7.out HN1.out (by have := HL1.out; omega)) ((HS1.out.below HB7.out).more HB7.out.size) n5 n5 HN1.out HN1.out (by have := HL1.out; omega)).mono ?_; rintro e w8 ⟨rfl, hb8⟩; rw [sameOf_self]; have HB8 := Lib.hid (HB7.out.trans (hb8.mono HB7.out.size)); clear hb8))
    go_ret
    exact ⟨rfl, HWW.out.trans (HB8.out.mono HWW.out.size)⟩
end Go.Proofs.YtedffhoekmgdpaaDoor
