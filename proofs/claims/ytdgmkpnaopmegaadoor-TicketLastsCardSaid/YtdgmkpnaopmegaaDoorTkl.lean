/- The walk of TicketLasts. -/
import Derived.Test.YtdgmkpnaopmegaaDoorTky
namespace Go.Proofs.YtdgmkpnaopmegaaDoor
open Go.RowKit

set_option maxRecDepth 10000 in
set_option maxHeartbeats 1000000 in
theorem lasts_in (w : World) (hM : ML w) (st en now : Int) (h1 : 0 ≤ st) (h2 : st ≤ en) (h3 : en ≤ 1099511627776) (h4 : 0 ≤ now) (h5 : now ≤ 1099511627776) :
    Calls Tryd.prog 9 #[.int .i64 st, .int .i64 en, .int .i64 now] w fun e w' => e = .returned (.bool true) ∧ Below w.heap.size w w' := by
  have HM := Lib.hid hM
  have HB := Lib.hid (show st ≤ en from h2)
  have I1 := Lib.hid (show I64 st by unfold I64; omega)
  have I2 := Lib.hid (show I64 en by unfold I64; omega)
  have I3 := Lib.hid (show I64 now by unfold I64; omega)
  obtain ⟨c, hc⟩ : ∃ c : ByteArray, c = ⟨#[]⟩ := ⟨_, rfl⟩
  obtain ⟨s, hs⟩ : ∃ s : ByteArray, s = ⟨#[]⟩ := ⟨_, rfl⟩
  obtain ⟨k, hk⟩ : ∃ k, k = zeros 16 := ⟨_, rfl⟩
  obtain ⟨fl, hfl⟩ : ∃ fl : Int, fl = 0 := ⟨_, rfl⟩
  obtain ⟨CS, hcs⟩ : ∃ CS, CS = tcells c s k st en fl := ⟨_, rfl⟩
  obtain ⟨ZS, hzs⟩ : ∃ ZS, ZS = tcells ⟨#[]⟩ ⟨#[]⟩ (zeros 16) 0 0 0 := ⟨_, rfl⟩
  obtain ⟨V, hV⟩ : ∃ V, validOf st en now = V := ⟨_, rfl⟩
  have HV := Lib.hid hV
  have HE := Lib.hid (show okD st en now 11 = decide (V = 0) by rw [okD_end, hV, Bool.eq_iff_iff, beq_iff_eq, decide_eq_true_iff])
  have HK := Lib.hid (show k.length = 16 by rw [hk]; exact zeros_length 16)
  have HCS := Lib.hid hcs
  have HCZ := Lib.hid (show (Value.agg #[.string ⟨#[]⟩, .string ⟨#[]⟩, .int .u8 0, .int .u8 0, .int .u8 0, .int .u8 0, .int .u8 0, .int .u8 0, .int .u8 0, .int .u8 0, .int .u8 0, .int .u8 0, .int .u8 0, .int .u8 0, .int .u8 0, .int .u8 0, .int .u8 0, .int .u8 0, .int .i64 st, .int .i64 en, .int .i64 0]).cells = CS.toArray by rw [hcs, hc, hs, hk, hfl]; kernel_rfl)
  have HCL := Lib.hid (show CS.length = 21 by rw [hcs, tcells_length _ _ _ _ _ _ HK.out])
  have HZL := Lib.hid (show ZS.length = 21 by rw [hzs, tcells_length _ _ _ _ _ _ (zeros_length 16)])
  have HZ := Lib.hid (show ∀ W, (zeroValue 25).run Tryd.prog W = .ok (.agg ZS.toArray) W by rw [hzs]; exact zeroT)
  have HTK := Lib.hid (show (CS.drop 0).take 21 = CS by rw [hcs]; exact take_t _ _ _ _ _ _ HK.out)
  have HON := Lib.hid (show ∀ u ∈ CS, u.oneCell' = true by rw [hcs]; exact tcells_one _ _ _ _ _ _)
  have t1 : decide (st < 0) = false := decide_eq_false (by omega)
  have t2 : decide (en < st) = false := decide_eq_false (by omega)
  have t3 : decide (1099511627776 < en) = false := decide_eq_false (by omega)
  have t4 : decide (now < 0) = false := decide_eq_false (by omega)
  have t5 : decide (1099511627776 < now) = false := decide_eq_false (by omega)
  clear hM hcs hzs hc hs hk hfl hV
  go_enter Tryd.func9, Tryd.ntmps9
  go_wp2_with (first
    | (go_at_call 10; refine (speaks_any _ HM.out).mono ?_; rintro e wa ⟨rfl, ga⟩; have GA := Lib.hid ga; clear ga)
    | refine wpList_allocC HZ.out rfl rfl ?_
    | (refine wpList_storeC (off := 0) (p := CS) aggT.hi rfl (.tmp 7) (.tmp 33) rfl _ HCZ.out HON.out (CB.new wa 25 ZS) HCL.out (by have h1 := HZL.out; have h2 := HCL.out; omega) (by first | rfl | go_simp) rfl ?_; intro wb h2 g2; rw [over_all _ _ (Nat.le_of_eq (by rw [HZL.out, HCL.out]))] at h2; have B2 := Lib.hid h2; have G2 := Lib.hid (none_new (grown_trans' GA.out (grown_alloc wa (.cells ZS.toArray 25) none)) g2 GA.out.size); clear h2 g2))
  clear t1 t2 t3 t4 t5
  generalize wa.heap.size = g7 at *
  go_loop [8, 9] (fun b d => ∃ D : Int, b = .bool (okD st en now D) ∧ d = .int .i64 D ∧ -10 ≤ D ∧ D ≤ 11) (fun _ d => (11 - intOf d).toNat)
  case atStart => exact ⟨-10, by rw [okD_start], rfl, by omega, by omega⟩
  case round =>
    obtain ⟨D, rfl, rfl, hd1, hd2⟩ := hrel
    by_cases hlt : D ≤ 10
    · have HN := Lib.hid (okD_next st en now D hd1 HB.out)
      cases hb : okD st en now D with
      | true =>
        have HS := Lib.hid (show okD st en now (D + 1) = true by rw [HN.out, hb]; rfl)
        clear hb
        go_wp2
        go_round
        case rel => exact ⟨D + 1, by rw [HS.out], rfl, by omega, by omega⟩
        case measure => simp [intOf]; omega
      | false =>
        by_cases ha : st ≤ now + D
        · have d1 : decide (st ≤ now + D) = true := decide_eq_true ha
          by_cases hc : now + D ≤ en
          · have d2 : decide (now + D ≤ en) = true := decide_eq_true hc
            have HS := Lib.hid (show okD st en now (D + 1) = true by rw [HN.out, hb, d1, d2]; rfl)
            clear hb
            go_wp2
            go_round
            case rel => exact ⟨D + 1, by rw [HS.out], rfl, by omega, by omega⟩
            case measure => simp [intOf]; omega
          · have d2 : decide (now + D ≤ en) = false := decide_eq_false hc
            have HS := Lib.hid (show okD st en now (D + 1) = false by rw [HN.out, hb, d1, d2]; rfl)
            clear hb
            go_wp2
            go_round
            case rel => exact ⟨D + 1, by rw [HS.out], rfl, by omega, by omega⟩
            case measure => simp [intOf]; omega
        · have d1 : decide (st ≤ now + D) = false := decide_eq_false ha
          have HS := Lib.hid (show okD st en now (D + 1) = false by rw [HN.out, hb, d1]; rfl)
          clear hb
          go_wp2
          go_round
          case rel => exact ⟨D + 1, by rw [HS.out], rfl, by omega, by omega⟩
          case measure => simp [intOf]; omega
    · obtain rfl : D = 11 := by omega
      rw [HE.out]
      clear hd1 hd2 hlt
      by_cases h0 : V = 0
      · have e1 : (V == 0) = true := by simpa using h0
        rw [decide_eq_true h0]
        clear h0
        go_wp2_with (first
          | refine wpList_loadC (off := 0) (p := CS) aggT rfl (.tmp 7) rfl B2.out HTK.out (by have h2 := HCL.out; omega) (by first | rfl | go_simp) ?_
          | (go_at_call 24; refine (lawValid CS c s k st en fl now V HCS.out HV.out _ HK.out I1.out I2.out I3.out).mono ?_; rintro e wv ⟨rfl, gv⟩; have GV := Lib.hid (grown_trans' G2.out gv); clear gv))
        go_ret
        exact ⟨rfl, below_of_none GV.out⟩
      · have e1 : (V == 0) = false := by simpa using h0
        rw [decide_eq_false h0]
        clear h0
        go_wp2_with (first
          | refine wpList_loadC (off := 0) (p := CS) aggT rfl (.tmp 7) rfl B2.out HTK.out (by have h2 := HCL.out; omega) (by first | rfl | go_simp) ?_
          | (go_at_call 24; refine (lawValid CS c s k st en fl now V HCS.out HV.out _ HK.out I1.out I2.out I3.out).mono ?_; rintro e wv ⟨rfl, gv⟩; have GV := Lib.hid (grown_trans' G2.out gv); clear gv))
        go_ret
        exact ⟨rfl, below_of_none GV.out⟩

set_option maxRecDepth 10000 in
set_option maxHeartbeats 400000 in
theorem lasts_out (w : World) (hM : ML w) (st en now : Int) (h : st < 0 ∨ en < st ∨ 1099511627776 < en ∨ now < 0 ∨ 1099511627776 < now) :
    Calls Tryd.prog 9 #[.int .i64 st, .int .i64 en, .int .i64 now] w fun e w' => e = .returned (.bool true) ∧ Below w.heap.size w w' := by
  have HM := Lib.hid hM
  have HH := Lib.hid h
  clear hM h
  by_cases h1 : st < 0
  · have t1 : decide (st < 0) = true := decide_eq_true h1
    clear h1 HH
    go_enter Tryd.func9, Tryd.ntmps9
    go_wp2_with (go_at_call 10; refine (speaks_any _ HM.out).mono ?_; rintro e wa ⟨rfl, ga⟩; have GA := Lib.hid ga; clear ga)
    go_ret
    exact ⟨rfl, below_of_none GA.out⟩
  · have t1 : decide (st < 0) = false := decide_eq_false h1
    by_cases h2 : en < st
    · have t2 : decide (en < st) = true := decide_eq_true h2
      clear h1 h2 HH
      go_enter Tryd.func9, Tryd.ntmps9
      go_wp2_with (go_at_call 10; refine (speaks_any _ HM.out).mono ?_; rintro e wa ⟨rfl, ga⟩; have GA := Lib.hid ga; clear ga)
      go_ret
      exact ⟨rfl, below_of_none GA.out⟩
    · have t2 : decide (en < st) = false := decide_eq_false h2
      by_cases h3 : 1099511627776 < en
      · have t3 : decide (1099511627776 < en) = true := decide_eq_true h3
        clear h1 h2 h3 HH
        go_enter Tryd.func9, Tryd.ntmps9
        go_wp2_with (go_at_call 10; refine (speaks_any _ HM.out).mono ?_; rintro e wa ⟨rfl, ga⟩; have GA := Lib.hid ga; clear ga)
        go_ret
        exact ⟨rfl, below_of_none GA.out⟩
      · have t3 : decide (1099511627776 < en) = false := decide_eq_false h3
        by_cases h4 : now < 0
        · have t4 : decide (now < 0) = true := decide_eq_true h4
          clear h1 h2 h3 h4 HH
          go_enter Tryd.func9, Tryd.ntmps9
          go_wp2_with (go_at_call 10; refine (speaks_any _ HM.out).mono ?_; rintro e wa ⟨rfl, ga⟩; have GA := Lib.hid ga; clear ga)
          go_ret
          exact ⟨rfl, below_of_none GA.out⟩
        · have t4 : decide (now < 0) = false := decide_eq_false h4
          have t5 : decide (1099511627776 < now) = true := decide_eq_true (by have := HH.out; omega)
          clear h1 h2 h3 h4 HH
          go_enter Tryd.func9, Tryd.ntmps9
          go_wp2_with (go_at_call 10; refine (speaks_any _ HM.out).mono ?_; rintro e wa ⟨rfl, ga⟩; have GA := Lib.hid ga; clear ga)
          go_ret
          exact ⟨rfl, below_of_none GA.out⟩
theorem walk_TicketLasts (w : World) (hM : ML w) (st : Int) (_ : (Lit.int .i64 st).wf = true) (en : Int) (_ : (Lit.int .i64 en).wf = true) (now : Int) (_ : (Lit.int .i64 now).wf = true) :
    Calls Tryd.prog 9 #[.int .i64 st, .int .i64 en, .int .i64 now] w fun e w' => e = .returned (.bool true) ∧ Below w.heap.size w w' := by
  by_cases h : st < 0 ∨ en < st ∨ 1099511627776 < en ∨ now < 0 ∨ 1099511627776 < now
  · exact lasts_out w hM st en now h
  · exact lasts_in w hM st en now (by omega) (by omega) (by omega) (by omega) (by omega)
end Go.Proofs.YtdgmkpnaopmegaaDoor
