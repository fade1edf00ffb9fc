/- The walk of TicketWrites. -/
import Derived.Test.YtnaoagiphehcaaaDoorTkt
import Derived.Test.YtnaoagiphehcaaaDoorTke
import Derived.Test.YtnaoagiphehcaaaDoorTkz
namespace Go.Proofs.YtnaoagiphehcaaaDoor
open Go.RowKit

set_option maxRecDepth 100000 in
set_option maxHeartbeats 4000000 in
theorem walk_TicketWrites (w : World) (hM : ML w) (c s : ByteArray) (k : List UInt8) (st en fl : Int) (hk : k.length = 16) (_ : (Lit.int .i64 st).wf = true) (_ : (Lit.int .i64 en).wf = true) (_ : (Lit.int .i64 fl).wf = true) (A : Option Addr) (l : List UInt8) (cap : Nat) (h : RB w w.heap.size A l cap) :
    Calls Tryd.prog 3 #[.agg (tcells c s k st en fl).toArray, .slice A l.length cap] w fun e w' => e = .returned (.bool true) ∧ Below w.heap.size w w' := by
  have HM := Lib.hid hM
  have HKt := Lib.hid hk
  have H9 := Lib.hid h
  obtain ⟨nl, hnl⟩ : ∃ n, l.length = n := ⟨_, rfl⟩
  have HNL := Lib.hid hnl
  rw [hnl]
  obtain ⟨TC, htc⟩ : ∃ C, tcells c s k st en fl = C := ⟨_, rfl⟩
  have HTC := Lib.hid htc
  have HSc := Lib.hid (tcells_c c s k st en fl hk)
  rw [htc] at HSc
  have HSs := Lib.hid (tcells_s c s k st en fl hk)
  rw [htc] at HSs
  have HL := Lib.hid (show TC.length = 21 by rw [← htc]; exact tcells_length _ _ _ _ _ _ hk)
  have HON := Lib.hid (show ∀ u ∈ TC, u.oneCell' = true by rw [← htc]; exact tcellsr_one _ _ _ _ _ _)
  have HEQT := Lib.hid (show ∀ W, (Op.equalIn 10000 25 (.agg TC.toArray) (.agg TC.toArray)).run Tryd.prog W = .ok true W from fun W => by rw [← htc]; exact run_eq_t _ _ _ _ _ _ hk W)
  have HEQZ := Lib.hid (show ∀ W, (Op.equalIn 10000 25 (.agg tZero.toArray) (.agg tZero.toArray)).run Tryd.prog W = .ok true W from fun W => run_eq_t _ _ _ _ _ _ (zeros_length 16) W)
  obtain ⟨MD, hmd⟩ : ∃ C, tMade (tVals l) = C := ⟨_, rfl⟩
  have HMD := Lib.hid hmd
  have HML := Lib.hid (show MD.length = 21 by rw [← hmd]; exact tMade_length _)
  have HMO := Lib.hid (show ∀ u ∈ MD, u.oneCell' = true by rw [← hmd]; exact tMade_one _)
  have HEQM := Lib.hid (show ∀ W, (Op.equalIn 10000 25 (.agg MD.toArray) (.agg MD.toArray)).run Tryd.prog W = .ok true W from fun W => by rw [← hmd]; exact run_eq_t _ _ _ _ _ _ (keyB_length _) W)
  rw [htc]
  have TKL := Lib.hid True.intro
  have B0 := Lib.hid (CB.new w 25 TC)
  have G0 := Lib.hid (grown_alloc w (.cells TC.toArray 25) none)
  obtain ⟨R, hR⟩ : ∃ R, ([c, s].any fun s => decide (300 < s.size)) = R := ⟨_, rfl⟩
  have HR := Lib.hid hR
  cases R with
  | true =>
    clear hM hk h hnl htc hmd hR
    go_enter Tryd.func3, Tryd.ntmps3
    go_wp2_with (first
      | (go_at_call 15; refine (speaks_any _ (HM.out.below (below_of_none G0.out))).mono ?_; rintro e wa ⟨rfl, ga⟩; have B1 := Lib.hid (B0.out.kept ga); have G1 := Lib.hid (grown_trans' G0.out ga); clear ga; have qc := B1.out.at_ HSc.out; have qs := B1.out.at_ HSs.out)
      | (go_at_call 16; refine (long_at wa _ [c, s] 2 true rfl (by omega) HR.out).mono ?_; rintro e wb ⟨rfl, gb⟩; have B2 := Lib.hid (B1.out.kept gb); have G2 := Lib.hid (grown_trans' G1.out gb); clear gb qc qs))
    go_ret
    exact ⟨rfl, below_of_none G2.out⟩
  | false =>
    simp only [List.any_cons, List.any_nil, Bool.or_eq_false_iff, decide_eq_false_iff_not] at hR
    have HZc := Lib.hid (show c.data.toList.length ≤ 10000 by rw [size_list]; omega)
    have HZs := Lib.hid (show s.data.toList.length ≤ 10000 by rw [size_list]; omega)
    by_cases hm3 : 3000 < nl
    · have hmi : (3000 : Int) < (nl : Int) := by omega
      clear hM hk h hnl htc hmd hR hm3
      go_enter Tryd.func3, Tryd.ntmps3
      go_wp2_with (first
        | (go_at_call 15; refine (speaks_any _ (HM.out.below (below_of_none G0.out))).mono ?_; rintro e wa ⟨rfl, ga⟩; have B1 := Lib.hid (B0.out.kept ga); have G1 := Lib.hid (grown_trans' G0.out ga); clear ga; have qc := B1.out.at_ HSc.out; have qs := B1.out.at_ HSs.out)
        | (go_at_call 16; refine (long_at wa _ [c, s] 2 false rfl (by omega) HR.out).mono ?_; rintro e wb ⟨rfl, gb⟩; have B2 := Lib.hid (B1.out.kept gb); have G2 := Lib.hid (grown_trans' G1.out gb); clear gb qc qs))
      go_ret
      exact ⟨rfl, below_of_none G2.out⟩
    · have hmi : ¬ ((3000 : Int) < (nl : Int)) := by omega
      have HNB := Lib.hid (show nl ≤ 10000 by omega)
      have TR1 := Lib.hid True.intro
      rcases bool_cases (b := tOk c.data.toList s.data.toList st en fl) with ho | ho
      · have HO := Lib.hid ho
        obtain ⟨Y, hy⟩ : ∃ Y, bytesF (tFields c.data.toList s.data.toList k st.toNat en.toNat fl.toNat) = Y := ⟨_, rfl⟩
        have HY := Lib.hid hy
        obtain ⟨n, hn⟩ : ∃ n, Y.length = n := ⟨_, rfl⟩
        have HN := Lib.hid hn
        have hlo := tOk_len ho
        have HNY := Lib.hid (show n ≤ 200000 by rw [← hn, ← hy, bytesF_length]; exact tFields_tot _ _ _ _ _ _ (by omega) (by omega) hk)
        have HQ := Lib.hid (show tReads Y = true by rw [← hy]; exact tReads_back ho hk)
        have HMV := Lib.hid (show tMade (tVals Y) = TC by rw [← hy, tVals, tVals_back ho hk, tMade_back ho hk, ba_of, ba_of, htc])
        rcases bool_cases (b := tReads l) with hrl | hrl
        · have HRL := Lib.hid hrl
          clear hM hk h hnl htc hmd hR hm3 ho hy hn hlo hrl
          go_enter Tryd.func3, Tryd.ntmps3
          go_wp2_with (first
            | (go_at_call 15; refine (speaks_any _ (HM.out.below (below_of_none G0.out))).mono ?_; rintro e wa ⟨rfl, ga⟩; have B1 := Lib.hid (B0.out.kept ga); have G1 := Lib.hid (grown_trans' G0.out ga); clear ga; have qc := B1.out.at_ HSc.out; have qs := B1.out.at_ HSs.out)
            | (go_at_call 16; refine (long_at wa _ [c, s] 2 false rfl (by omega) HR.out).mono ?_; rintro e wb ⟨rfl, gb⟩; have B2 := Lib.hid (B1.out.kept gb); have G2 := Lib.hid (grown_trans' G1.out gb); clear gb qc qs)
            | (have hx := TKL; clear hx; refine wpList_loadC (off := 0) (p := TC) aggTr rfl (.tmp 2) rfl B2.out (whole_take HL.out) (by have z2 := HL.out; omega) (by first | rfl | go_simp) ?_)
            | (go_at_call 17; rw [← HTC.out]; refine (twrite_any c s c.data.toList s.data.toList k st en fl _ (HM.out.below (below_of_none G2.out)) rfl rfl HKt.out (by have := HZc.out; omega) (by have := HZs.out; omega)).mono ?_; rw [HTC.out]; intro e ww h; obtain ⟨g, h⟩ := h; clear TKL; rw [if_pos HO.out] at h; obtain ⟨v, rfl, b⟩ := h; obtain ⟨A1, cap1, rfl, r⟩ := b; rw [HY.out] at r; rw [HY.out]; rw [HN.out]; have R3 := Lib.hid r; clear r; have B3 := Lib.hid (B2.out.kept g); have G3 := Lib.hid (grown_trans' G2.out g); clear g)
            | (refine wpList_loadC (off := 0) (p := TC) aggTr rfl (.tmp 2) rfl B3.out (whole_take HL.out) (by have z2 := HL.out; omega) (by first | rfl | go_simp) ?_)
            | (go_at_call 18; rw [← HTC.out]; refine (refWriteT_any c s c.data.toList s.data.toList k st en fl _ rfl rfl HKt.out HZc.out HZs.out).mono ?_; rw [HTC.out]; intro e wv h; obtain ⟨g, h⟩ := h; rw [if_pos HO.out] at h; obtain ⟨v, rfl, b⟩ := h; obtain ⟨A2, cap2, rfl, r⟩ := b; rw [HY.out] at r; rw [HY.out]; rw [HN.out]; have P4 := Lib.hid r; have R4 := Lib.hid (R3.out.kept2 g); clear r; have B4 := Lib.hid (B3.out.kept g); have G4 := Lib.hid (grown_trans' G3.out g); clear g)
            | (at_builtin; refine wpList_appB byteT rfl (.tmp 39) (.tmp 40) rfl (OwnB.new0 wv wv.heap.size _ (Nat.le_refl _)) ((H9.out.kept2 G4.out).alloc (Nat.le_refl _) _) rfl (by rw [HNL.out]; rfl) (by rw [HNL.out]; have := HNB.out; simp; omega) (by simp) ?_; intro v5 w5 o5 g5 _ _; rw [List.nil_append] at o5; have gg := none_new (grown_alloc wv (.cells #[] 5) none) g5 (Nat.le_refl _); obtain ⟨A5, c5, rfl, r5, -⟩ := o5.shape; rw [HNL.out]; have RC := Lib.hid r5; have P5 := Lib.hid (P4.out.kept2 gg); have R5 := Lib.hid (R4.out.kept2 gg); have B5 := Lib.hid (B4.out.kept gg); have G5 := Lib.hid (grown_trans' G4.out gg); clear o5 g5 gg r5)
            | (go_at_call 19; have hx := TR1; clear hx; refine (tRead_any nl c5 A5 l _ (HM.out.below (below_of_none G5.out)) HNL.out (by have := HNB.out; omega) RC.out).mono ?_; intro e w6 h; obtain ⟨g, h⟩ := h; rw [if_pos HRL.out] at h; subst h; rw [HMD.out]; have P6 := Lib.hid (P5.out.kept2 g); have R6 := Lib.hid (R5.out.kept2 g); have B6 := Lib.hid (B5.out.kept g); have G6 := Lib.hid (grown_trans' G5.out g); clear g TR1)
            | refine wpList_allocC zeroTr rfl rfl ?_
            | (refine wpList_storeC (off := 0) (p := MD) aggTr.hi rfl (.tmp 9) (.tmp 43) rfl (.agg (MD).toArray) rfl HMO.out (CB.new w6 25 tZero) HML.out (by have z1 := tZero_length; omega) (by first | rfl | go_simp) rfl ?_; intro w7 h g; rw [over_all _ _ (by have z1 := tZero_length; have z2 := HML.out; omega)] at h; have gs := none_new (grown_alloc w6 (.cells (tZero).toArray 25) none) g (Nat.le_refl _); have P7 := Lib.hid (P6.out.kept2 gs); have R7 := Lib.hid (R6.out.kept2 gs); have B7 := Lib.hid (B6.out.kept gs); have G7 := Lib.hid (grown_trans' G6.out gs); have C7 := Lib.hid h; clear h g gs)
            | (go_at_call 20; refine (reftread_any nl cap A l _ HNL.out HNB.out (H9.out.kept2 G7.out)).mono ?_; intro e w8 h; obtain ⟨g, h⟩ := h; rw [if_pos HRL.out] at h; subst h; rw [HMD.out]; have P8 := Lib.hid (P7.out.kept2 g); have R8 := Lib.hid (R7.out.kept2 g); have B8 := Lib.hid (B7.out.kept g); have G8 := Lib.hid (grown_trans' G7.out g); have C8 := Lib.hid (C7.out.kept g); clear g)
            | (refine wpList_storeC (off := 0) (p := MD) aggTr.hi rfl (.tmp 11) (.tmp 48) rfl (.agg (MD).toArray) rfl HMO.out (CB.new w8 25 tZero) HML.out (by have z1 := tZero_length; omega) (by first | rfl | go_simp) rfl ?_; intro w9 h g; rw [over_all _ _ (by have z1 := tZero_length; have z2 := HML.out; omega)] at h; have gs := none_new (grown_alloc w8 (.cells (tZero).toArray 25) none) g (Nat.le_refl _); have P9 := Lib.hid (P8.out.kept2 gs); have R9 := Lib.hid (R8.out.kept2 gs); have B9 := Lib.hid (B8.out.kept gs); have G9 := Lib.hid (grown_trans' G8.out gs); have C9 := Lib.hid h; have D9 := Lib.hid (C8.out.kept gs); have q2 := run_strB byteT Tryd.underlying9 P9.out; rw [HN.out] at q2; have q1 := run_strB byteT Tryd.underlying9 R9.out; rw [HN.out] at q1; have he1 := HEQM.out; clear h g gs)
            | refine wpList_loadCg (off := 0) (p := MD) aggTr (by first | rfl | go_simp) (.tmp 9) rfl D9.out (whole_take HML.out) (by have z2 := HML.out; omega) (by first | rfl | go_simp) ?_
            | refine wpList_loadCg (off := 0) (p := MD) aggTr (by first | rfl | go_simp) (.tmp 11) rfl C9.out (whole_take HML.out) (by have z2 := HML.out; omega) (by first | rfl | go_simp) ?_
            | (go_at_call 19; refine (tRead_any n cap1 A1 Y _ (HM.out.below (below_of_none G9.out)) HN.out (by have := HNY.out; omega) R9.out).mono ?_; intro e w10 h; obtain ⟨g, h⟩ := h; rw [if_pos HQ.out] at h; subst h; rw [HMV.out]; clear q1 q2 he1; have P10 := Lib.hid (P9.out.kept2 g); have R10 := Lib.hid (R9.out.kept2 g); have B10 := Lib.hid (B9.out.kept g); have G10 := Lib.hid (grown_trans' G9.out g); clear g)
            | (refine wpList_storeC (off := 0) (p := TC) aggTr.hi rfl (.tmp 13) (.tmp 75) rfl (.agg (TC).toArray) rfl HON.out (CB.new w10 25 tZero) HL.out (by have z1 := tZero_length; omega) (by first | rfl | go_simp) rfl ?_; intro w11 h g; rw [over_all _ _ (by have z1 := tZero_length; have z2 := HL.out; omega)] at h; have gs := none_new (grown_alloc w10 (.cells (tZero).toArray 25) none) g (Nat.le_refl _); have P11 := Lib.hid (P10.out.kept2 gs); have R11 := Lib.hid (R10.out.kept2 gs); have B11 := Lib.hid (B10.out.kept gs); have G11 := Lib.hid (grown_trans' G10.out gs); have C11 := Lib.hid h; have he2 := HEQT.out; clear h g gs)
            | refine wpList_loadCg (off := 0) (p := TC) aggTr (by first | rfl | go_simp) (.tmp 13) rfl C11.out (whole_take HL.out) (by have z2 := HL.out; omega) (by first | rfl | go_simp) ?_
            | refine wpList_loadCg (off := 0) (p := TC) aggTr (by first | rfl | go_simp) (.tmp 2) rfl B11.out (whole_take HL.out) (by have z2 := HL.out; omega) (by first | rfl | go_simp) ?_)
          go_ret
          exact ⟨rfl, below_of_none G11.out⟩
        · have HRL := Lib.hid hrl
          clear hM hk h hnl htc hmd hR hm3 ho hy hn hlo hrl
          go_enter Tryd.func3, Tryd.ntmps3
          go_wp2_with (first
            | (go_at_call 15; refine (speaks_any _ (HM.out.below (below_of_none G0.out))).mono ?_; rintro e wa ⟨rfl, ga⟩; have B1 := Lib.hid (B0.out.kept ga); have G1 := Lib.hid (grown_trans' G0.out ga); clear ga; have qc := B1.out.at_ HSc.out; have qs := B1.out.at_ HSs.out)
            | (go_at_call 16; refine (long_at wa _ [c, s] 2 false rfl (by omega) HR.out).mono ?_; rintro e wb ⟨rfl, gb⟩; have B2 := Lib.hid (B1.out.kept gb); have G2 := Lib.hid (grown_trans' G1.out gb); clear gb qc qs)
            | (have hx := TKL; clear hx; refine wpList_loadC (off := 0) (p := TC) aggTr rfl (.tmp 2) rfl B2.out (whole_take HL.out) (by have z2 := HL.out; omega) (by first | rfl | go_simp) ?_)
            | (go_at_call 17; rw [← HTC.out]; refine (twrite_any c s c.data.toList s.data.toList k st en fl _ (HM.out.below (below_of_none G2.out)) rfl rfl HKt.out (by have := HZc.out; omega) (by have := HZs.out; omega)).mono ?_; rw [HTC.out]; intro e ww h; obtain ⟨g, h⟩ := h; clear TKL; rw [if_pos HO.out] at h; obtain ⟨v, rfl, b⟩ := h; obtain ⟨A1, cap1, rfl, r⟩ := b; rw [HY.out] at r; rw [HY.out]; rw [HN.out]; have R3 := Lib.hid r; clear r; have B3 := Lib.hid (B2.out.kept g); have G3 := Lib.hid (grown_trans' G2.out g); clear g)
            | (refine wpList_loadC (off := 0) (p := TC) aggTr rfl (.tmp 2) rfl B3.out (whole_take HL.out) (by have z2 := HL.out; omega) (by first | rfl | go_simp) ?_)
            | (go_at_call 18; rw [← HTC.out]; refine (refWriteT_any c s c.data.toList s.data.toList k st en fl _ rfl rfl HKt.out HZc.out HZs.out).mono ?_; rw [HTC.out]; intro e wv h; obtain ⟨g, h⟩ := h; rw [if_pos HO.out] at h; obtain ⟨v, rfl, b⟩ := h; obtain ⟨A2, cap2, rfl, r⟩ := b; rw [HY.out] at r; rw [HY.out]; rw [HN.out]; have P4 := Lib.hid r; have R4 := Lib.hid (R3.out.kept2 g); clear r; have B4 := Lib.hid (B3.out.kept g); have G4 := Lib.hid (grown_trans' G3.out g); clear g)
            | (at_builtin; refine wpList_appB byteT rfl (.tmp 39) (.tmp 40) rfl (OwnB.new0 wv wv.heap.size _ (Nat.le_refl _)) ((H9.out.kept2 G4.out).alloc (Nat.le_refl _) _) rfl (by rw [HNL.out]; rfl) (by rw [HNL.out]; have := HNB.out; simp; omega) (by simp) ?_; intro v5 w5 o5 g5 _ _; rw [List.nil_append] at o5; have gg := none_new (grown_alloc wv (.cells #[] 5) none) g5 (Nat.le_refl _); obtain ⟨A5, c5, rfl, r5, -⟩ := o5.shape; rw [HNL.out]; have RC := Lib.hid r5; have P5 := Lib.hid (P4.out.kept2 gg); have R5 := Lib.hid (R4.out.kept2 gg); have B5 := Lib.hid (B4.out.kept gg); have G5 := Lib.hid (grown_trans' G4.out gg); clear o5 g5 gg r5)
            | (go_at_call 19; have hx := TR1; clear hx; refine (tRead_any nl c5 A5 l _ (HM.out.below (below_of_none G5.out)) HNL.out (by have := HNB.out; omega) RC.out).mono ?_; intro e w6 h; obtain ⟨g, h⟩ := h; rw [if_neg (by rw [HRL.out]; simp)] at h; subst h; have P6 := Lib.hid (P5.out.kept2 g); have R6 := Lib.hid (R5.out.kept2 g); have B6 := Lib.hid (B5.out.kept g); have G6 := Lib.hid (grown_trans' G5.out g); clear g TR1)
            | refine wpList_allocC zeroTr rfl rfl ?_
            | (refine wpList_storeC (off := 0) (p := tZero) aggTr.hi rfl (.tmp 9) (.tmp 43) rfl (.agg (tZero).toArray) rfl tZero_one (CB.new w6 25 tZero) tZero_length (by have z1 := tZero_length; omega) (by first | rfl | go_simp) rfl ?_; intro w7 h g; rw [over_all _ _ (by have z1 := tZero_length; have z2 := tZero_length; omega)] at h; have gs := none_new (grown_alloc w6 (.cells (tZero).toArray 25) none) g (Nat.le_refl _); have P7 := Lib.hid (P6.out.kept2 gs); have R7 := Lib.hid (R6.out.kept2 gs); have B7 := Lib.hid (B6.out.kept gs); have G7 := Lib.hid (grown_trans' G6.out gs); have C7 := Lib.hid h; clear h g gs)
            | (go_at_call 20; refine (reftread_any nl cap A l _ HNL.out HNB.out (H9.out.kept2 G7.out)).mono ?_; intro e w8 h; obtain ⟨g, h⟩ := h; rw [if_neg (by rw [HRL.out]; simp)] at h; subst h; have P8 := Lib.hid (P7.out.kept2 g); have R8 := Lib.hid (R7.out.kept2 g); have B8 := Lib.hid (B7.out.kept g); have G8 := Lib.hid (grown_trans' G7.out g); have C8 := Lib.hid (C7.out.kept g); clear g)
            | (refine wpList_storeC (off := 0) (p := tZero) aggTr.hi rfl (.tmp 11) (.tmp 48) rfl (.agg (tZero).toArray) rfl tZero_one (CB.new w8 25 tZero) tZero_length (by have z1 := tZero_length; omega) (by first | rfl | go_simp) rfl ?_; intro w9 h g; rw [over_all _ _ (by have z1 := tZero_length; have z2 := tZero_length; omega)] at h; have gs := none_new (grown_alloc w8 (.cells (tZero).toArray 25) none) g (Nat.le_refl _); have P9 := Lib.hid (P8.out.kept2 gs); have R9 := Lib.hid (R8.out.kept2 gs); have B9 := Lib.hid (B8.out.kept gs); have G9 := Lib.hid (grown_trans' G8.out gs); have C9 := Lib.hid h; have D9 := Lib.hid (C8.out.kept gs); have q2 := run_strB byteT Tryd.underlying9 P9.out; rw [HN.out] at q2; have q1 := run_strB byteT Tryd.underlying9 R9.out; rw [HN.out] at q1; have he1 := HEQZ.out; clear h g gs)
            | refine wpList_loadCg (off := 0) (p := tZero) aggTr (by first | rfl | go_simp) (.tmp 9) rfl D9.out (whole_take tZero_length) (by have z2 := tZero_length; omega) (by first | rfl | go_simp) ?_
            | refine wpList_loadCg (off := 0) (p := tZero) aggTr (by first | rfl | go_simp) (.tmp 11) rfl C9.out (whole_take tZero_length) (by have z2 := tZero_length; omega) (by first | rfl | go_simp) ?_
            | (go_at_call 19; refine (tRead_any n cap1 A1 Y _ (HM.out.below (below_of_none G9.out)) HN.out (by have := HNY.out; omega) R9.out).mono ?_; intro e w10 h; obtain ⟨g, h⟩ := h; rw [if_pos HQ.out] at h; subst h; rw [HMV.out]; clear q1 q2 he1; have P10 := Lib.hid (P9.out.kept2 g); have R10 := Lib.hid (R9.out.kept2 g); have B10 := Lib.hid (B9.out.kept g); have G10 := Lib.hid (grown_trans' G9.out g); clear g)
            | (refine wpList_storeC (off := 0) (p := TC) aggTr.hi rfl (.tmp 13) (.tmp 75) rfl (.agg (TC).toArray) rfl HON.out (CB.new w10 25 tZero) HL.out (by have z1 := tZero_length; omega) (by first | rfl | go_simp) rfl ?_; intro w11 h g; rw [over_all _ _ (by have z1 := tZero_length; have z2 := HL.out; omega)] at h; have gs := none_new (grown_alloc w10 (.cells (tZero).toArray 25) none) g (Nat.le_refl _); have P11 := Lib.hid (P10.out.kept2 gs); have R11 := Lib.hid (R10.out.kept2 gs); have B11 := Lib.hid (B10.out.kept gs); have G11 := Lib.hid (grown_trans' G10.out gs); have C11 := Lib.hid h; have he2 := HEQT.out; clear h g gs)
            | refine wpList_loadCg (off := 0) (p := TC) aggTr (by first | rfl | go_simp) (.tmp 13) rfl C11.out (whole_take HL.out) (by have z2 := HL.out; omega) (by first | rfl | go_simp) ?_
            | refine wpList_loadCg (off := 0) (p := TC) aggTr (by first | rfl | go_simp) (.tmp 2) rfl B11.out (whole_take HL.out) (by have z2 := HL.out; omega) (by first | rfl | go_simp) ?_)
          go_ret
          exact ⟨rfl, below_of_none G11.out⟩
      · have HO := Lib.hid ho
        rcases bool_cases (b := tReads l) with hrl | hrl
        · have HRL := Lib.hid hrl
          clear hM hk h hnl htc hmd hR hm3 ho hrl
          go_enter Tryd.func3, Tryd.ntmps3
          go_wp2_with (first
            | (go_at_call 15; refine (speaks_any _ (HM.out.below (below_of_none G0.out))).mono ?_; rintro e wa ⟨rfl, ga⟩; have B1 := Lib.hid (B0.out.kept ga); have G1 := Lib.hid (grown_trans' G0.out ga); clear ga; have qc := B1.out.at_ HSc.out; have qs := B1.out.at_ HSs.out)
            | (go_at_call 16; refine (long_at wa _ [c, s] 2 false rfl (by omega) HR.out).mono ?_; rintro e wb ⟨rfl, gb⟩; have B2 := Lib.hid (B1.out.kept gb); have G2 := Lib.hid (grown_trans' G1.out gb); clear gb qc qs)
            | (have hx := TKL; clear hx; refine wpList_loadC (off := 0) (p := TC) aggTr rfl (.tmp 2) rfl B2.out (whole_take HL.out) (by have z2 := HL.out; omega) (by first | rfl | go_simp) ?_)
            | (go_at_call 17; rw [← HTC.out]; refine (twrite_any c s c.data.toList s.data.toList k st en fl _ (HM.out.below (below_of_none G2.out)) rfl rfl HKt.out (by have := HZc.out; omega) (by have := HZs.out; omega)).mono ?_; rw [HTC.out]; intro e ww h; obtain ⟨g, h⟩ := h; clear TKL; rw [if_neg (by rw [HO.out]; simp)] at h; subst h; have B3 := Lib.hid (B2.out.kept g); have G3 := Lib.hid (grown_trans' G2.out g); clear g)
            | (refine wpList_loadC (off := 0) (p := TC) aggTr rfl (.tmp 2) rfl B3.out (whole_take HL.out) (by have z2 := HL.out; omega) (by first | rfl | go_simp) ?_)
            | (go_at_call 18; rw [← HTC.out]; refine (refWriteT_any c s c.data.toList s.data.toList k st en fl _ rfl rfl HKt.out HZc.out HZs.out).mono ?_; rw [HTC.out]; intro e wv h; obtain ⟨g, h⟩ := h; rw [if_neg (by rw [HO.out]; simp)] at h; obtain ⟨v, rfl, b⟩ := h; obtain ⟨A2, cap2, rfl, r⟩ := b; simp only [List.length_nil] at r ⊢; have P4 := Lib.hid r; clear r; have B4 := Lib.hid (B3.out.kept g); have G4 := Lib.hid (grown_trans' G3.out g); clear g)
            | (at_builtin; refine wpList_appB byteT rfl (.tmp 39) (.tmp 40) rfl (OwnB.new0 wv wv.heap.size _ (Nat.le_refl _)) ((H9.out.kept2 G4.out).alloc (Nat.le_refl _) _) rfl (by rw [HNL.out]; rfl) (by rw [HNL.out]; have := HNB.out; simp; omega) (by simp) ?_; intro v5 w5 o5 g5 _ _; rw [List.nil_append] at o5; have gg := none_new (grown_alloc wv (.cells #[] 5) none) g5 (Nat.le_refl _); obtain ⟨A5, c5, rfl, r5, -⟩ := o5.shape; rw [HNL.out]; have RC := Lib.hid r5; have P5 := Lib.hid (P4.out.kept2 gg); have B5 := Lib.hid (B4.out.kept gg); have G5 := Lib.hid (grown_trans' G4.out gg); clear o5 g5 gg r5)
            | (go_at_call 19; have hx := TR1; clear hx; refine (tRead_any nl c5 A5 l _ (HM.out.below (below_of_none G5.out)) HNL.out (by have := HNB.out; omega) RC.out).mono ?_; intro e w6 h; obtain ⟨g, h⟩ := h; rw [if_pos HRL.out] at h; subst h; rw [HMD.out]; have P6 := Lib.hid (P5.out.kept2 g); have B6 := Lib.hid (B5.out.kept g); have G6 := Lib.hid (grown_trans' G5.out g); clear g TR1)
            | refine wpList_allocC zeroTr rfl rfl ?_
            | (refine wpList_storeC (off := 0) (p := MD) aggTr.hi rfl (.tmp 9) (.tmp 43) rfl (.agg (MD).toArray) rfl HMO.out (CB.new w6 25 tZero) HML.out (by have z1 := tZero_length; omega) (by first | rfl | go_simp) rfl ?_; intro w7 h g; rw [over_all _ _ (by have z1 := tZero_length; have z2 := HML.out; omega)] at h; have gs := none_new (grown_alloc w6 (.cells (tZero).toArray 25) none) g (Nat.le_refl _); have P7 := Lib.hid (P6.out.kept2 gs); have B7 := Lib.hid (B6.out.kept gs); have G7 := Lib.hid (grown_trans' G6.out gs); have C7 := Lib.hid h; clear h g gs)
            | (go_at_call 20; refine (reftread_any nl cap A l _ HNL.out HNB.out (H9.out.kept2 G7.out)).mono ?_; intro e w8 h; obtain ⟨g, h⟩ := h; rw [if_pos HRL.out] at h; subst h; rw [HMD.out]; have P8 := Lib.hid (P7.out.kept2 g); have B8 := Lib.hid (B7.out.kept g); have G8 := Lib.hid (grown_trans' G7.out g); have C8 := Lib.hid (C7.out.kept g); clear g)
            | (refine wpList_storeC (off := 0) (p := MD) aggTr.hi rfl (.tmp 11) (.tmp 48) rfl (.agg (MD).toArray) rfl HMO.out (CB.new w8 25 tZero) HML.out (by have z1 := tZero_length; omega) (by first | rfl | go_simp) rfl ?_; intro w9 h g; rw [over_all _ _ (by have z1 := tZero_length; have z2 := HML.out; omega)] at h; have gs := none_new (grown_alloc w8 (.cells (tZero).toArray 25) none) g (Nat.le_refl _); have P9 := Lib.hid (P8.out.kept2 gs); have B9 := Lib.hid (B8.out.kept gs); have G9 := Lib.hid (grown_trans' G8.out gs); have C9 := Lib.hid h; have D9 := Lib.hid (C8.out.kept gs); have q2 := run_strB byteT Tryd.underlying9 P9.out; have q1 := run_strB byteT Tryd.underlying9 (RB.nil_ w9 0); simp only [List.length_nil] at q1 q2; have he1 := HEQM.out; clear h g gs)
            | refine wpList_loadCg (off := 0) (p := MD) aggTr (by first | rfl | go_simp) (.tmp 9) rfl D9.out (whole_take HML.out) (by have z2 := HML.out; omega) (by first | rfl | go_simp) ?_
            | refine wpList_loadCg (off := 0) (p := MD) aggTr (by first | rfl | go_simp) (.tmp 11) rfl C9.out (whole_take HML.out) (by have z2 := HML.out; omega) (by first | rfl | go_simp) ?_)
          go_ret
          exact ⟨rfl, below_of_none G9.out⟩
        · have HRL := Lib.hid hrl
          clear hM hk h hnl htc hmd hR hm3 ho hrl
          go_enter Tryd.func3, Tryd.ntmps3
          go_wp2_with (first
            | (go_at_call 15; refine (speaks_any _ (HM.out.below (below_of_none G0.out))).mono ?_; rintro e wa ⟨rfl, ga⟩; have B1 := Lib.hid (B0.out.kept ga); have G1 := Lib.hid (grown_trans' G0.out ga); clear ga; have qc := B1.out.at_ HSc.out; have qs := B1.out.at_ HSs.out)
            | (go_at_call 16; refine (long_at wa _ [c, s] 2 false rfl (by omega) HR.out).mono ?_; rintro e wb ⟨rfl, gb⟩; have B2 := Lib.hid (B1.out.kept gb); have G2 := Lib.hid (grown_trans' G1.out gb); clear gb qc qs)
            | (have hx := TKL; clear hx; refine wpList_loadC (off := 0) (p := TC) aggTr rfl (.tmp 2) rfl B2.out (whole_take HL.out) (by have z2 := HL.out; omega) (by first | rfl | go_simp) ?_)
            | (go_at_call 17; rw [← HTC.out]; refine (twrite_any c s c.data.toList s.data.toList k st en fl _ (HM.out.below (below_of_none G2.out)) rfl rfl HKt.out (by have := HZc.out; omega) (by have := HZs.out; omega)).mono ?_; rw [HTC.out]; intro e ww h; obtain ⟨g, h⟩ := h; clear TKL; rw [if_neg (by rw [HO.out]; simp)] at h; subst h; have B3 := Lib.hid (B2.out.kept g); have G3 := Lib.hid (grown_trans' G2.out g); clear g)
            | (refine wpList_loadC (off := 0) (p := TC) aggTr rfl (.tmp 2) rfl B3.out (whole_take HL.out) (by have z2 := HL.out; omega) (by first | rfl | go_simp) ?_)
            | (go_at_call 18; rw [← HTC.out]; refine (refWriteT_any c s c.data.toList s.data.toList k st en fl _ rfl rfl HKt.out HZc.out HZs.out).mono ?_; rw [HTC.out]; intro e wv h; obtain ⟨g, h⟩ := h; rw [if_neg (by rw [HO.out]; simp)] at h; obtain ⟨v, rfl, b⟩ := h; obtain ⟨A2, cap2, rfl, r⟩ := b; simp only [List.length_nil] at r ⊢; have P4 := Lib.hid r; clear r; have B4 := Lib.hid (B3.out.kept g); have G4 := Lib.hid (grown_trans' G3.out g); clear g)
            | (at_builtin; refine wpList_appB byteT rfl (.tmp 39) (.tmp 40) rfl (OwnB.new0 wv wv.heap.size _ (Nat.le_refl _)) ((H9.out.kept2 G4.out).alloc (Nat.le_refl _) _) rfl (by rw [HNL.out]; rfl) (by rw [HNL.out]; have := HNB.out; simp; omega) (by simp) ?_; intro v5 w5 o5 g5 _ _; rw [List.nil_append] at o5; have gg := none_new (grown_alloc wv (.cells #[] 5) none) g5 (Nat.le_refl _); obtain ⟨A5, c5, rfl, r5, -⟩ := o5.shape; rw [HNL.out]; have RC := Lib.hid r5; have P5 := Lib.hid (P4.out.kept2 gg); have B5 := Lib.hid (B4.out.kept gg); have G5 := Lib.hid (grown_trans' G4.out gg); clear o5 g5 gg r5)
            | (go_at_call 19; have hx := TR1; clear hx; refine (tRead_any nl c5 A5 l _ (HM.out.below (below_of_none G5.out)) HNL.out (by have := HNB.out; omega) RC.out).mono ?_; intro e w6 h; obtain ⟨g, h⟩ := h; rw [if_neg (by rw [HRL.out]; simp)] at h; subst h; have P6 := Lib.hid (P5.out.kept2 g); have B6 := Lib.hid (B5.out.kept g); have G6 := Lib.hid (grown_trans' G5.out g); clear g TR1)
            | refine wpList_allocC zeroTr rfl rfl ?_
            | (refine wpList_storeC (off := 0) (p := tZero) aggTr.hi rfl (.tmp 9) (.tmp 43) rfl (.agg (tZero).toArray) rfl tZero_one (CB.new w6 25 tZero) tZero_length (by have z1 := tZero_length; omega) (by first | rfl | go_simp) rfl ?_; intro w7 h g; rw [over_all _ _ (by have z1 := tZero_length; have z2 := tZero_length; omega)] at h; have gs := none_new (grown_alloc w6 (.cells (tZero).toArray 25) none) g (Nat.le_refl _); have P7 := Lib.hid (P6.out.kept2 gs); have B7 := Lib.hid (B6.out.kept gs); have G7 := Lib.hid (grown_trans' G6.out gs); have C7 := Lib.hid h; clear h g gs)
            | (go_at_call 20; refine (reftread_any nl cap A l _ HNL.out HNB.out (H9.out.kept2 G7.out)).mono ?_; intro e w8 h; obtain ⟨g, h⟩ := h; rw [if_neg (by rw [HRL.out]; simp)] at h; subst h; have P8 := Lib.hid (P7.out.kept2 g); have B8 := Lib.hid (B7.out.kept g); have G8 := Lib.hid (grown_trans' G7.out g); have C8 := Lib.hid (C7.out.kept g); clear g)
            | (refine wpList_storeC (off := 0) (p := tZero) aggTr.hi rfl (.tmp 11) (.tmp 48) rfl (.agg (tZero).toArray) rfl tZero_one (CB.new w8 25 tZero) tZero_length (by have z1 := tZero_length; omega) (by first | rfl | go_simp) rfl ?_; intro w9 h g; rw [over_all _ _ (by have z1 := tZero_length; have z2 := tZero_length; omega)] at h; have gs := none_new (grown_alloc w8 (.cells (tZero).toArray 25) none) g (Nat.le_refl _); have P9 := Lib.hid (P8.out.kept2 gs); have B9 := Lib.hid (B8.out.kept gs); have G9 := Lib.hid (grown_trans' G8.out gs); have C9 := Lib.hid h; have D9 := Lib.hid (C8.out.kept gs); have q2 := run_strB byteT Tryd.underlying9 P9.out; have q1 := run_strB byteT Tryd.underlying9 (RB.nil_ w9 0); simp only [List.length_nil] at q1 q2; have he1 := HEQZ.out; clear h g gs)
            | refine wpList_loadCg (off := 0) (p := tZero) aggTr (by first | rfl | go_simp) (.tmp 9) rfl D9.out (whole_take tZero_length) (by have z2 := tZero_length; omega) (by first | rfl | go_simp) ?_
            | refine wpList_loadCg (off := 0) (p := tZero) aggTr (by first | rfl | go_simp) (.tmp 11) rfl C9.out (whole_take tZero_length) (by have z2 := tZero_length; omega) (by first | rfl | go_simp) ?_)
          go_ret
          exact ⟨rfl, below_of_none G9.out⟩
end Go.Proofs.YtnaoagiphehcaaaDoor
