/- The walk of the document's Named (a copy that leans on names alone). -/
import Derived.Test.YtfpcabfpnekejaaDoorRpa
import Derived.Test.YtfpcabfpnekejaaDoorTkw
namespace Go.Proofs.YtfpcabfpnekejaaDoor
open Go.RowKit

theorem refNamedB_any (s : ByteArray) (l : List UInt8) (hl : s.data.toList = l) (w : World) (hs : l.length ≤ 10000) :
    Calls Tryd.prog 21 #[.string s] w fun e w' => e = .returned (.bool (parses l)) ∧ w.grownBy w' none := by
  have HL := Lib.hid hl
  have HS := Lib.hid hs
  cases hp : parses l with
  | true =>
    have HP := Lib.hid hp
    clear hl hs hp
    go_enter Tryd.func21, Tryd.ntmps21
    go_wp2_with (first
      | (go_at_call 29; refine (refParse_any s l HL.out _ HS.out).mono ?_; intro e w1 h1; rw [RefParsed, if_pos HP.out] at h1; obtain ⟨A, n, c, ls, r, rfl, -, -, -, -, -, hb⟩ := h1; have G1 := Lib.hid (none_of_below hb (Nat.le_refl _)); clear hb)
      | refine wpList_allocC zeroN_run rfl rfl ?_
      | (refine wpList_storeC (off := 0) (p := [.slice A n c, .string r]) aggN.hi rfl (.tmp 3) (.tmp 8) rfl _ rfl (nm_one _ _ _ _) (CB.new w1 66 zeroN) rfl (Nat.le_refl _) (by first | rfl | go_simp) rfl ?_; intro w4 h4 g4; have G4 := Lib.hid (none_new (grown_trans' G1.out (grown_alloc w1 _ none)) g4 G1.out.size); clear h4 g4))
    go_ret
    exact ⟨rfl, G4.out⟩
  | false =>
    have HP := Lib.hid hp
    clear hl hs hp
    go_enter Tryd.func21, Tryd.ntmps21
    go_wp2_with (first
      | (go_at_call 29; refine (refParse_any s l HL.out _ HS.out).mono ?_; intro e w1 h1; rw [RefParsed, if_neg (by rw [HP.out]; simp)] at h1; obtain ⟨rfl, hb⟩ := h1; have G1 := Lib.hid (none_of_below hb (Nat.le_refl _)); clear hb)
      | refine wpList_allocC zeroN_run rfl rfl ?_
      | (refine wpList_storeC (off := 0) (p := [.slice none 0 0, .string ⟨#[]⟩]) aggN.hi rfl (.tmp 3) (.tmp 8) rfl _ rfl (nm_one _ _ _ _) (CB.new w1 66 zeroN) rfl (Nat.le_refl _) (by first | rfl | go_simp) rfl ?_; intro w4 h4 g4; have G4 := Lib.hid (none_new (grown_trans' G1.out (grown_alloc w1 _ none)) g4 G1.out.size); clear h4 g4))
    go_ret
    exact ⟨rfl, G4.out⟩
end Go.Proofs.YtfpcabfpnekejaaDoor
namespace Go.Proofs.YtfpcabfpnekejaaDoor
open Go.RowKit

theorem lasts_spec (s e f : Int) : (spanOk s e && flagsOk f) = (decide (0 ≤ s) && (decide (s ≤ e) && (decide (e ≤ 1099511627776) && (decide (0 ≤ f) && decide (f ≤ 3))))) := by
  rw [Bool.eq_iff_iff]
  simp only [spanOk, timeOk, flagsOk, Bool.and_eq_true, decide_eq_true_eq]
  omega
theorem lastsRef_any (s e f : Int) (w : World) : Calls Tryd.prog 30 #[.int .i64 s, .int .i64 e, .int .i64 f] w fun r w' => r = .returned (.bool (spanOk s e && flagsOk f)) ∧ w = w' := by
  rw [lasts_spec]
  by_cases h1 : 0 ≤ s
  · have d1 : decide (0 ≤ s) = true := decide_eq_true h1
    by_cases h2 : s ≤ e
    · have d2 : decide (s ≤ e) = true := decide_eq_true h2
      by_cases h3 : e ≤ 1099511627776
      · have d3 : decide (e ≤ 1099511627776) = true := decide_eq_true h3
        by_cases h4 : 0 ≤ f
        · have d4 : decide (0 ≤ f) = true := decide_eq_true h4
          by_cases h5 : f ≤ 3
          · have d5 : decide (f ≤ 3) = true := decide_eq_true h5
            rw [d1, d2, d3, d4, d5]
            go_enter Tryd.func30, Tryd.ntmps30
            go_wp2
            go_ret
            exact ⟨rfl, rfl⟩
          · have d5 : decide (f ≤ 3) = false := decide_eq_false h5
            rw [d1, d2, d3, d4, d5]
            go_enter Tryd.func30, Tryd.ntmps30
            go_wp2
            go_ret
            exact ⟨rfl, rfl⟩
        · have d4 : decide (0 ≤ f) = false := decide_eq_false h4
          rw [d1, d2, d3, d4]
          go_enter Tryd.func30, Tryd.ntmps30
          go_wp2
          go_ret
          exact ⟨rfl, rfl⟩
      · have d3 : decide (e ≤ 1099511627776) = false := decide_eq_false h3
        rw [d1, d2, d3]
        go_enter Tryd.func30, Tryd.ntmps30
        go_wp2
        go_ret
        exact ⟨rfl, rfl⟩
    · have d2 : decide (s ≤ e) = false := decide_eq_false h2
      rw [d1, d2]
      go_enter Tryd.func30, Tryd.ntmps30
      go_wp2
      go_ret
      exact ⟨rfl, rfl⟩
  · have d1 : decide (0 ≤ s) = false := decide_eq_false h1
    rw [d1]
    go_enter Tryd.func30, Tryd.ntmps30
    go_wp2
    go_ret
    exact ⟨rfl, rfl⟩
theorem gOk_spec (ls : List UInt8) (st en fl : Int) : gOk ls st en fl = (parses ls && (spanOk st en && flagsOk fl)) := by
  unfold gOk
  rfl
set_option maxHeartbeats 1000000 in
theorem refRightG_any (s : ByteArray) (ls k : List UInt8) (no st en fl : Int) (w : World) (hs : s.data.toList = ls) (hk : k.length = 16) (hls : ls.length ≤ 10000) :
    Calls Tryd.prog 22 #[.agg (gcells s k no st en fl).toArray] w fun e w' => e = .returned (.bool (gOk ls st en fl)) ∧ w.grownBy w' none := by
  have Hs := Lib.hid hs
  have HLs := Lib.hid hls
  have B0 := Lib.hid (CB.new w 36 (gcells s k no st en fl))
  have G0 := Lib.hid (grown_alloc w (.cells (gcells s k no st en fl).toArray 36) none)
  have q0 := B0.out.at_ (gcells_s s k no st en fl hk)
  have HQst := Lib.hid (gcells_st s k no st en fl hk)
  have HQen := Lib.hid (gcells_en s k no st en fl hk)
  have HQfl := Lib.hid (gcells_fl s k no st en fl hk)
  rw [gOk_spec]
  have TK0 := Lib.hid True.intro
  cases h1 : parses ls with
  | false =>
    have H1 := Lib.hid h1
    clear hs hls hk h1
    simp only [Bool.false_and]
    go_enter Tryd.func22, Tryd.ntmps22
    go_wp2_with (first
      | (go_at_call 21; have hx := TK0; clear hx; refine (refNamedB_any s ls Hs.out _ HLs.out).mono ?_; rintro e w1 ⟨rfl, g1⟩; rw [H1.out]; have G1 := Lib.hid (grown_trans' G0.out g1); have B1 := Lib.hid (B0.out.kept g1); have TK1 := Lib.hid True.intro; clear g1))
    go_ret
    exact ⟨rfl, G1.out⟩
  | true =>
    have H1 := Lib.hid h1
    clear h1
    clear hs hls hk
    simp only [Bool.true_and]
    go_enter Tryd.func22, Tryd.ntmps22
    go_wp2_with (first
      | (go_at_call 30; refine (lastsRef_any st en fl _).mono ?_; rintro e wl ⟨rfl, rfl⟩)
      | (go_at_call 21; have hx := TK0; clear hx; refine (refNamedB_any s ls Hs.out _ HLs.out).mono ?_; rintro e w1 ⟨rfl, g1⟩; rw [H1.out]; have G1 := Lib.hid (grown_trans' G0.out g1); have B1 := Lib.hid (B0.out.kept g1); have qst := (B0.out.kept g1).at_ HQst.out; have qen := (B0.out.kept g1).at_ HQen.out; have qfl := (B0.out.kept g1).at_ HQfl.out; have TK1 := Lib.hid True.intro; clear g1))
    go_ret
    exact ⟨rfl, G1.out⟩
end Go.Proofs.YtfpcabfpnekejaaDoor
