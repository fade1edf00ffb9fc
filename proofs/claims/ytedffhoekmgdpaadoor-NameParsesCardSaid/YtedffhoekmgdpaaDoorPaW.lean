/- The walk of NameParses. -/
import Derived.Test.YtedffhoekmgdpaaDoorRpa
import Derived.Test.YtedffhoekmgdpaaDoorTxW
namespace Go.Proofs.YtedffhoekmgdpaaDoor
open Go.RowKit

theorem RefParsed.yes {w w' : World} {l : List UInt8} {e : Ending} (h : RefParsed w l e w') (hp : parses l = true) : ∃ (A : Option Addr) (n c : Nat) (ls : List ByteArray) (r : ByteArray), e = .returned (.tuple #[.agg #[.slice A n c, .string r], .bool true]) ∧ ls.length = n ∧ n ≤ 3 ∧ dl ls = partsOf l ∧ r.data.toList = realmOf l ∧ RS w' w'.heap.size A ls c ∧ Below w.heap.size w w' := by
  rw [RefParsed, if_pos hp] at h
  exact h
theorem RefParsed.no {w w' : World} {l : List UInt8} {e : Ending} (h : RefParsed w l e w') (hp : parses l = false) : e = .returned (.tuple #[.agg #[.slice none 0 0, .string ⟨#[]⟩], .bool false]) ∧ Below w.heap.size w w' := by
  rw [RefParsed, if_neg (by rw [hp]; simp)] at h
  exact h

set_option maxRecDepth 10000 in
set_option maxHeartbeats 1000000 in
theorem walk_NameParses (w : World) (hM : ML w) (s : ByteArray) (_ : s.size ≤ maxLen) : Calls Tryd.prog 4 #[.string s] w fun e w' => e = .returned (.bool true) ∧ Below w.heap.size w w' := by
  have HM := Lib.hid hM
  obtain ⟨l, hl⟩ : ∃ l, s.data.toList = l := ⟨_, rfl⟩
  have hsz : s.size = l.length := by rw [← hl]; rfl
  have HL := Lib.hid hl
  by_cases hlong : 10000 < s.size
  · have hli : (10000 : Int) < (s.size : Int) := by omega
    clear hM hl hsz
    go_enter Tryd.func4, Tryd.ntmps4
    go_wp2_with (go_at_call 8; refine (speaks_any _ HM.out).mono ?_; rintro e w1 ⟨rfl, hb1⟩)
    go_ret
    exact ⟨rfl, hb1⟩
  have hli : ¬ (10000 : Int) < (s.size : Int) := by omega
  have HS := Lib.hid (show l.length ≤ 1000000 by omega)
  have HT := Lib.hid (show l.length ≤ 10000 by omega)
  cases hp : parses l with
  | false =>
    have HP := Lib.hid hp
    have te : (ByteArray.mk #[]).toList = [] := by rw [ByteArray.toList_eq]
    clear hM hl hsz hp
    go_enter Tryd.func4, Tryd.ntmps4
    go_wp2_with (first
      | (go_at_call 8; refine (speaks_any _ HM.out).mono ?_; rintro e w0 ⟨rfl, hb0⟩; have HB0 := Lib.hid hb0; clear hb0)
      | (go_at_call 13; refine (parse_any s l HL.out _ (HM.out.below HB0.out) HS.out).mono ?_; intro e w1 hq; obtain ⟨rfl, hb1⟩ := hq.no HP.out; have HB2 := Lib.hid (show Below w.heap.size w (w1.alloc (.cells #[.slice none 0 0, .string ⟨#[]⟩] 24)) from (HB0.out.trans (hb1.mono HB0.out.size)).alloc (Nat.le_trans HB0.out.size hb1.size) _); clear hb1 hq)
      | (go_at_call 16; refine (refParse_any s l HL.out _ HT.out).mono ?_; intro e w3 hq; obtain ⟨rfl, hb3⟩ := hq.no HP.out; have HT3 := Lib.hid ((CB.new w1 24 [.slice none 0 0, .string ⟨#[]⟩]).below hb3 (by rw [World.size_alloc]; exact Nat.lt_succ_self _)); have HB3 := Lib.hid (HB2.out.trans (hb3.mono HB2.out.size)); have d1 := fun o => cell_alloc (HT3.out.at_ (i := 0) (v := .slice none 0 0) rfl) o; have d2 := fun o => cell_alloc (HT3.out.at_ (i := 1) (v := .string ⟨#[]⟩) rfl) o; clear hb3 hq)
      | (go_at_call 15; refine (refSame_any none none [] [] 0 0 ⟨#[]⟩ ⟨#[]⟩ _ (RS.nil_ _ _) (RS.nil_ _ _) 0 0 rfl rfl (by omega)).mono ?_; rintro e w4 ⟨rfl, hb4⟩; rw [sameOf_self]; have HB4 := Lib.hid ((HB3.out.alloc HB3.out.size (.cells #[.slice none 0 0, .string ⟨#[]⟩] 24)).trans (hb4.mono (HB3.out.alloc HB3.out.size (.cells #[.slice none 0 0, .string ⟨#[]⟩] 24)).size)); clear hb4 d1 d2))
    go_ret
    exact ⟨rfl, HB4.out⟩
  | true =>
    have HP := Lib.hid hp
    have HSI := Lib.hid (show s = ⟨l.toArray⟩ from bytes_eq hl)
    clear hM hl hsz hp
    go_enter Tryd.func4, Tryd.ntmps4
    go_wp2_with (first
      | (go_at_call 8; refine (speaks_any _ HM.out).mono ?_; rintro e w0 ⟨rfl, hb0⟩; have HB0 := Lib.hid hb0; clear hb0)
      | (go_at_call 13; refine (parse_any s l HL.out _ (HM.out.below HB0.out) HS.out).mono ?_; intro e w1 hq; obtain ⟨g, n, ls, r, rfl, hn, hn3, hd, hr, hg, hge, hb1⟩ := hq.yes HP.out; have HN := Lib.hid hn; have HN3 := Lib.hid hn3; have HD := Lib.hid hd; have HR := Lib.hid hr; have HG := Lib.hid hg; have HB2 := Lib.hid (show Below w.heap.size w (w1.alloc (.cells #[.slice (some ⟨g, 0, none⟩) n n, .string r] 24)) from (HB0.out.trans (hb1.mono HB0.out.size)).alloc (Nat.le_trans HB0.out.size hb1.size) _); clear hb1 hq hn hd hr hg hge hn3)
      | (go_at_call 16; refine (refParse_any s l HL.out _ HT.out).mono ?_; intro e w3 hq; obtain ⟨A2, n2, c2, ls2, r2, rfl, hn2, -, hd2, hr2, hrs2, hb3⟩ := hq.yes HP.out; obtain rfl : ls2 = ls := dl_inj (hd2.trans HD.out.symm); obtain rfl : n = n2 := HN.out.symm.trans hn2; obtain rfl : r2 = r := ba_inj (hr2.trans HR.out.symm); have HRS := Lib.hid hrs2; have HT3 := Lib.hid ((CB.new w1 24 [.slice (some ⟨g, 0, none⟩) n n, .string r2]).below hb3 (by rw [World.size_alloc]; exact Nat.lt_succ_self _)); have HG3 := Lib.hid ((hb3.block g (by rw [World.size_alloc]; have := (Array.getElem?_eq_some_iff.1 HG.out).1; omega)).trans ((Below.heap_alloc w1 _ _ (Array.getElem?_eq_some_iff.1 HG.out).1).trans HG.out)); have HB3 := Lib.hid (HB2.out.trans (hb3.mono HB2.out.size)); have d1 := fun o => cell_alloc (HT3.out.at_ (i := 0) (v := .slice (some ⟨g, 0, none⟩) n n) rfl) o; have d2 := fun o => cell_alloc (HT3.out.at_ (i := 1) (v := .string r2) rfl) o; clear hb3 hq hd2 hr2 hrs2 hn2)
      | (go_at_call 10; refine (text_any (some ⟨g, 0, none⟩) ls2 n r2 _ (RS.of_heap (t := 9) ((Below.heap_alloc w3 _ _ (Array.getElem?_eq_some_iff.1 HG3.out).1).trans HG3.out) HN.out (by have := HN3.out; omega)) (small_parts HP.out HD.out HR.out).1 (small_parts HP.out HD.out HR.out).2.1 n HN.out (by have := HN3.out; omega)).mono ?_; rintro e w4 ⟨rfl, hb4⟩; rw [if_pos (small_parts HP.out HD.out HR.out).2.2.1, (small_parts HP.out HD.out HR.out).2.2.2, ← HSI.out]; have HB4 := Lib.hid ((HB3.out.alloc HB3.out.size (.cells #[.slice A2 n c2, .string r2] 24)).trans (hb4.mono (HB3.out.alloc HB3.out.size (.cells #[.slice A2 n c2, .string r2] 24)).size)); have HB34 := Lib.hid (((Below.refl w3.heap.size w3).alloc (Nat.le_refl _) (.cells #[.slice A2 n c2, .string r2] 24)).trans (hb4.mono (by rw [World.size_alloc]; omega))); have HG4 := Lib.hid ((HB34.out.block g (Array.getElem?_eq_some_iff.1 HG3.out).1).trans HG3.out); have HT5 := Lib.hid ((CB.new w3 24 [.slice A2 n c2, .string r2]).below hb4 (by rw [World.size_alloc]; exact Nat.lt_succ_self _)); have HT4 := Lib.hid (HT3.out.below HB34.out HT3.out.lt); have e51 := HT5.out.at_ (i := 0) (v := .slice A2 n c2) rfl; have e52 := HT5.out.at_ (i := 1) (v := .string r2) rfl; have e31 := HT4.out.at_ (i := 0) (v := .slice (some ⟨g, 0, none⟩) n n) rfl; have e32 := HT4.out.at_ (i := 1) (v := .string r2) rfl; clear hb4 d1 d2)
      | (go_at_call 15; refine (refSame_any (some ⟨g, 0, none⟩) A2 ls2 ls2 n c2 r2 r2 _ (RS.of_heap (t := 9) HG4.out HN.out (by have := HN3.out; omega)) ((HRS.out.below HB34.out).more HB34.out.size) n n HN.out HN.out (by have := HN3.out; omega)).mono ?_; rintro e w5 ⟨rfl, hb5⟩; rw [sameOf_self]; have HB5 := Lib.hid (HB4.out.trans (hb5.mono HB4.out.size)); clear hb5 e51 e52 e31 e32))
    go_ret
    exact ⟨rfl, HB5.out⟩
end Go.Proofs.YtedffhoekmgdpaaDoor
