/- The walk of TicketSeals. -/
import Derived.Test.YthgejidimnbplaaGreatDoorTsb
namespace Go.Proofs.YthgejidimnbplaaGreatDoor
open Go.RowKit Go.Maps

theorem CB.wrs0 {w w' : World} {g s : Nat} {t : TypeId} {cs : List Value} (h : CB w g t cs) (hw : Wrs w w' s none) (hne : g ≠ s) : CB w' g t cs := (hw.block g h.lt hne (by simp)).trans h
theorem run_eqK {a b : List UInt8} (ha : a.length = 16) (hb : b.length = 16) (w : World) : (Op.equalIn 10000 23 (.agg (bcells a).toArray) (.agg (bcells b).toArray)).run Tryz.prog w = .ok (a == b) w := run_arrB Tryz.underlying23 sz8 Tryz.underlying5 ha hb 9998 w

set_option maxRecDepth 100000 in
set_option maxHeartbeats 4000000 in
theorem walk_TicketSeals (w : World) (hM : ML w) (c s : ByteArray) (k : List UInt8) (st en fl : Int) (hk : k.length = 16) (_ : (Lit.int .i64 st).wf = true) (_ : (Lit.int .i64 en).wf = true) (_ : (Lit.int .i64 fl).wf = true) (key : List UInt8) (hkey : key.length = 16) (other : List UInt8) (hoth : other.length = 16) :
    Calls Tryz.prog 3 #[.agg (tcells c s k st en fl).toArray, .agg (bcells key).toArray, .agg (bcells other).toArray] w fun e w' => e = .returned (.bool true) ∧ Below w.heap.size w w' := by
  have HM := Lib.hid hM
  have HKt := Lib.hid hk
  have HKK := Lib.hid hkey
  have HKO := Lib.hid hoth
  obtain ⟨TC, htc⟩ : ∃ C, tcells c s k st en fl = C := ⟨_, rfl⟩
  have HTC := Lib.hid htc
  have HSc := Lib.hid (tcells_c c s k st en fl hk)
  rw [htc] at HSc
  have HSs := Lib.hid (tcells_s c s k st en fl hk)
  rw [htc] at HSs
  have HL := Lib.hid (show TC.length = 21 by rw [← htc]; exact tcells_length _ _ _ _ _ _ hk)
  have HON := Lib.hid (show ∀ u ∈ TC, u.oneCell' = true by rw [← htc]; exact tcellsr_one _ _ _ _ _ _)
  have HEQT := Lib.hid (show ∀ W, (Op.equalIn 10000 25 (.agg TC.toArray) (.agg TC.toArray)).run Tryz.prog W = .ok true W from fun W => by rw [← htc]; exact run_eq_t _ _ _ _ _ _ hk W)
  have HEQZ := Lib.hid (show ∀ W, (Op.equalIn 10000 25 (.agg tZero.toArray) (.agg tZero.toArray)).run Tryz.prog W = .ok true W from fun W => run_eq_t _ _ _ _ _ _ (zeros_length 16) W)
  have HEQB := Lib.hid (show ∀ W, (Op.equalIn 10000 25 (.agg tZero.toArray) (.agg #[.string ⟨#[]⟩, .string ⟨#[]⟩, .int .u8 0, .int .u8 0, .int .u8 0, .int .u8 0, .int .u8 0, .int .u8 0, .int .u8 0, .int .u8 0, .int .u8 0, .int .u8 0, .int .u8 0, .int .u8 0, .int .u8 0, .int .u8 0, .int .u8 0, .int .u8 0, .int .i64 0, .int .i64 0, .int .i64 0])).run Tryz.prog W = .ok true W from HEQZ.out)
  have LK := Lib.hid (show (bcells key).length = 16 by rw [bcells_length, hkey])
  have LO := Lib.hid (show (bcells other).length = 16 by rw [bcells_length, hoth])
  rw [htc]
  have B0 := Lib.hid (((CB.new w 25 TC).alloc (.cells (bcells key).toArray 23)).alloc (.cells (bcells other).toArray 23))
  have K0 := Lib.hid ((CB.new1 w (.cells TC.toArray 25) 23 (bcells key)).alloc (.cells (bcells other).toArray 23))
  have O0 := Lib.hid (CB.new2 w (.cells TC.toArray 25) (.cells (bcells key).toArray 23) 23 (bcells other))
  have G0 := Lib.hid (grown_trans' (grown_trans' (grown_alloc w (.cells TC.toArray 25) none) (grown_alloc _ (.cells (bcells key).toArray 23) none)) (grown_alloc _ (.cells (bcells other).toArray 23) none))
  obtain ⟨R, hR⟩ : ∃ R, ([c, s].any fun s => decide (300 < s.size)) = R := ⟨_, rfl⟩
  have HR := Lib.hid hR
  cases R with
  | true =>
    clear hM hk hkey hoth htc hR
    go_enter Tryz.func3, Tryz.ntmps3
    go_wp2_with (first
      | (go_at_call 4; refine (speaks_any _ (HM.out.below (below_of_none G0.out))).mono ?_; rintro e wa ⟨rfl, g⟩; have B1 := Lib.hid (B0.out.kept g); have K1 := Lib.hid (K0.out.kept g); have O1 := Lib.hid (O0.out.kept g); have G1 := Lib.hid (grown_trans' G0.out g); have qc := B1.out.at_ HSc.out; have qs := B1.out.at_ HSs.out; clear g)
      | (go_at_call 5; refine (long_at wa _ [c, s] 2 true rfl (by omega) HR.out).mono ?_; rintro e wb ⟨rfl, g⟩; have B2 := Lib.hid (B1.out.kept g); have K2 := Lib.hid (K1.out.kept g); have O2 := Lib.hid (O1.out.kept g); have G2 := Lib.hid (grown_trans' G1.out g); clear g qc qs))
    go_ret
    exact ⟨rfl, below_of_none G2.out⟩
  | false =>
    simp only [List.any_cons, List.any_nil, Bool.or_eq_false_iff, decide_eq_false_iff_not] at hR
    have HZc := Lib.hid (show c.data.toList.length ≤ 10000 by rw [size_list]; omega)
    have HZs := Lib.hid (show s.data.toList.length ≤ 10000 by rw [size_list]; omega)
    rcases bool_cases (b := tOk c.data.toList s.data.toList st en fl) with ho | ho
    · have HO := Lib.hid ho
      obtain ⟨Y, hy⟩ : ∃ Y, bytesF (tFields c.data.toList s.data.toList k st.toNat en.toNat fl.toNat) = Y := ⟨_, rfl⟩
      have HY := Lib.hid hy
      have HYL := Lib.hid (show Y.length ≤ 2000 by rw [← hy]; exact (tBytes_len ho hk).2)
      have HQ := Lib.hid (show tReads Y = true by rw [← hy]; exact tReads_back ho hk)
      have HMV := Lib.hid (show tMade (tVals Y) = TC by rw [← hy, tVals, tVals_back ho hk, tMade_back ho hk, ba_of, ba_of, htc])
      have HOP1 := Lib.hid (show openS [(key, 2, Y)] key 2 (boxN 0) = some Y by rw [openS_one, if_pos rfl])
      have HPL := Lib.hid (show ∀ t ∈ [((key, 2, Y) : Te)], t.2.2.length ≤ 100000 by intro t ht; rw [List.mem_singleton.1 ht]; have := HYL.out; simp only; omega)
      have HOL := Lib.hid (show ∀ l, (some Y : Option (List UInt8)) = some l → l.length ≤ 100000 by intro l hl; injection hl with hl; subst hl; have := HYL.out; omega)
      have TA := Lib.hid True.intro
      by_cases hko : other = key
      · have heK := run_eqK hoth hkey
        rw [show (other == key) = true by rw [hko]; exact beq_self_eq_true _] at heK
        have HEK := Lib.hid heK
        have HOP2 := Lib.hid (show openS [(key, 2, Y)] other 2 (boxN 0) = some Y by rw [openS_one, if_pos hko.symm])
        clear hM hk hkey hoth htc hR ho hy hko heK
        go_enter Tryz.func3, Tryz.ntmps3
        go_wp2_with (first
          | (go_at_call 4; refine (speaks_any _ (HM.out.below (below_of_none G0.out))).mono ?_; rintro e wa ⟨rfl, g⟩; have B1 := Lib.hid (B0.out.kept g); have K1 := Lib.hid (K0.out.kept g); have O1 := Lib.hid (O0.out.kept g); have G1 := Lib.hid (grown_trans' G0.out g); have qc := B1.out.at_ HSc.out; have qs := B1.out.at_ HSs.out; clear g)
          | (go_at_call 5; refine (long_at wa _ [c, s] 2 false rfl (by omega) HR.out).mono ?_; rintro e wb ⟨rfl, g⟩; have B2 := Lib.hid (B1.out.kept g); have K2 := Lib.hid (K1.out.kept g); have O2 := Lib.hid (O1.out.kept g); have G2 := Lib.hid (grown_trans' G1.out g); clear g qc qs)
          | refine wpList_buildVt rfl rfl (by first | rfl | (go_simp; rfl)) (run_buildZ _) ?_
          | (go_at_call 6; refine (snew_any (zeros 16) wb).mono ?_; rintro e wc ⟨rfl, ss, g⟩; have B3 := Lib.hid (B2.out.kept g); have K3 := Lib.hid (K2.out.kept g); have O3 := Lib.hid (O2.out.kept g); have G3 := Lib.hid (grown_trans' G2.out g); have HB3 := Lib.hid (show w.heap.size ≤ wb.heap.size + 1 by have := G2.out.size; omega); have BL3 := Lib.hid (show w.heap.size < wb.heap.size + 1 by have := B2.out.lt; omega); have KL3 := Lib.hid (show w.heap.size + 1 < wb.heap.size + 1 by have := K2.out.lt; omega); have OL3 := Lib.hid (show w.heap.size + 1 + 1 < wb.heap.size + 1 by have := O2.out.lt; omega); have S3 := Lib.hid ss; clear ss g)
          | refine wpList_loadC (off := 0) (p := bcells key) aggKy rfl (.tmp 4) rfl K3.out (whole_take LK.out) (by have z := LK.out; omega) (by first | rfl | go_simp) ?_
          | refine wpList_loadC (off := 0) (p := TC) aggTr rfl (.tmp 3) rfl B3.out (whole_take HL.out) (by have z := HL.out; omega) (by first | rfl | go_simp) ?_
          | (go_at_call 7; rw [← HTC.out]; refine (tseal_any _ (HM.out.below (below_of_none G3.out)) _ _ 0 S3.out key HKK.out c s c.data.toList s.data.toList k st en fl rfl rfl HKt.out HZc.out HZs.out).mono ?_; rw [HTC.out]; intro e wd h; unfold SealedT at h; rw [if_pos HO.out] at h; obtain ⟨A4, c4, r4, rfl, rb, ss, ww⟩ := h; rw [HY.out] at ss; have B4 := Lib.hid (B3.out.wrs0 ww (by have := BL3.out; omega)); have K4 := Lib.hid (K3.out.wrs0 ww (by have := KL3.out; omega)); have O4 := Lib.hid (O3.out.wrs0 ww (by have := OL3.out; omega)); have G4 := Lib.hid (wrs_new G3.out ww HB3.out); have R4 := Lib.hid rb; have S4 := Lib.hid ss; clear rb ss ww)
          | refine wpList_loadC (off := 0) (p := TC) aggTr rfl (.tmp 3) rfl B4.out (whole_take HL.out) (by have z := HL.out; omega) (by first | rfl | go_simp) ?_
          | (go_at_call 8; rw [← HTC.out]; refine (refRightT_any c s c.data.toList s.data.toList k st en fl _ rfl rfl HKt.out HZc.out HZs.out).mono ?_; rw [HTC.out]; rintro e we ⟨rfl, g⟩; rw [HO.out]; have B5 := Lib.hid (B4.out.kept g); have K5 := Lib.hid (K4.out.kept g); have O5 := Lib.hid (O4.out.kept g); have G5 := Lib.hid (grown_trans' G4.out g); have R5 := Lib.hid (R4.out.keptS g); have S5 := Lib.hid (S4.out.none g); clear g)
          | refine wpList_loadC (off := 0) (p := bcells key) aggKy rfl (.tmp 4) rfl K5.out (whole_take LK.out) (by have z := LK.out; omega) (by first | rfl | go_simp) ?_
          | (go_at_call 10; have hx := TA; refine (topen_any _ (HM.out.below (below_of_none G5.out)) _ _ r4 _ 0 S5.out key HKK.out A4 (boxN 0) 9 c4 (boxN_len 0) R5.out (by omega) (by simp) HPL.out (some Y) HOP1.out HOL.out).mono ?_; intro e wf h; obtain ⟨g, h⟩ := h; simp only at h; rw [if_pos HQ.out] at h; subst h; rw [HMV.out]; have B6 := Lib.hid (B5.out.kept g); have K6 := Lib.hid (K5.out.kept g); have O6 := Lib.hid (O5.out.kept g); have G6 := Lib.hid (grown_trans' G5.out g); have R6 := Lib.hid (R5.out.keptS g); have S6 := Lib.hid (S5.out.none g); clear g hx TA; have TB := Lib.hid True.intro; have TX := Lib.hid True.intro)
          | (have hx := TB; refine wpList_allocC zeroTr rfl rfl ?_)
          | (have hx := TB; refine wpList_storeC (off := 0) (p := TC) aggTr.hi rfl (.tmp 10) (.tmp 56) rfl (.agg TC.toArray) rfl HON.out (CB.new wf 25 tZero) HL.out (by have z1 := tZero_length; omega) (by first | rfl | go_simp) (by first | rfl | go_simp) ?_; intro wg h g; rw [over_all _ _ (by have z1 := tZero_length; have z2 := HL.out; omega)] at h; have gs := none_new (grown_alloc wf (.cells (tZero).toArray 25) none) g (Nat.le_refl _); have X7 := Lib.hid h; have B7 := Lib.hid (B6.out.kept gs); have K7 := Lib.hid (K6.out.kept gs); have O7 := Lib.hid (O6.out.kept gs); have G7 := Lib.hid (grown_trans' G6.out gs); have R7 := Lib.hid (R6.out.keptS gs); have S7 := Lib.hid (S6.out.none gs); clear h g gs hx TB; have TC1 := Lib.hid True.intro)
          | refine wpList_loadC (off := 0) (p := bcells other) aggKy rfl (.tmp 5) rfl O7.out (whole_take LO.out) (by have z := LO.out; omega) (by first | rfl | go_simp) ?_
          | (go_at_call 10; have hx := TC1; refine (topen_any _ (HM.out.below (below_of_none G7.out)) _ _ r4 _ 0 S7.out other HKO.out A4 (boxN 0) 9 c4 (boxN_len 0) R7.out (by omega) (by simp) HPL.out (some Y) HOP2.out HOL.out).mono ?_; intro e wh h; obtain ⟨g, h⟩ := h; simp only at h; rw [if_pos HQ.out] at h; subst h; rw [HMV.out]; have X8 := Lib.hid (X7.out.kept g); have B8 := Lib.hid (B7.out.kept g); have K8 := Lib.hid (K7.out.kept g); have O8 := Lib.hid (O7.out.kept g); have G8 := Lib.hid (grown_trans' G7.out g); have R8 := Lib.hid (R7.out.keptS g); have S8 := Lib.hid (S7.out.none g); clear g hx TC1; have TD := Lib.hid True.intro)
          | (have hx := TD; refine wpList_allocC zeroTr rfl rfl ?_)
          | (have hx := TD; refine wpList_storeC (off := 0) (p := TC) aggTr.hi rfl (.tmp 12) (.tmp 63) rfl (.agg TC.toArray) rfl HON.out (CB.new wh 25 tZero) HL.out (by have z1 := tZero_length; omega) (by first | rfl | go_simp) (by first | rfl | go_simp) ?_; intro wi h g; rw [over_all _ _ (by have z1 := tZero_length; have z2 := HL.out; omega)] at h; have gs := none_new (grown_alloc wh (.cells (tZero).toArray 25) none) g (Nat.le_refl _); have Y9 := Lib.hid h; have X9 := Lib.hid (X8.out.kept gs); have B9 := Lib.hid (B8.out.kept gs); have K9 := Lib.hid (K8.out.kept gs); have O9 := Lib.hid (O8.out.kept gs); have G9 := Lib.hid (grown_trans' G8.out gs); have R9 := Lib.hid (R8.out.keptS gs); have S9 := Lib.hid (S8.out.none gs); clear h g gs hx TD; have heK := HEK.out; have he1 := HEQT.out; have he2 := HEQZ.out; have he3 := HEQB.out)
          | refine wpList_loadC (off := 0) (p := bcells other) aggKy rfl (.tmp 5) rfl O9.out (whole_take LO.out) (by have z := LO.out; omega) (by first | rfl | go_simp) ?_
          | refine wpList_loadC (off := 0) (p := bcells key) aggKy rfl (.tmp 4) rfl K9.out (whole_take LK.out) (by have z := LK.out; omega) (by first | rfl | go_simp) ?_
          | refine wpList_loadCg (off := 0) (p := TC) aggTr (by first | rfl | go_simp) (.tmp 12) rfl Y9.out (whole_take HL.out) (by have z2 := HL.out; omega) (by first | rfl | go_simp) ?_
          | refine wpList_loadCg (off := 0) (p := TC) aggTr (by first | rfl | go_simp) (.tmp 3) rfl B9.out (whole_take HL.out) (by have z2 := HL.out; omega) (by first | rfl | go_simp) ?_)
        go_ret
        exact ⟨rfl, below_of_none G9.out⟩
      · have heK := run_eqK hoth hkey
        rw [show (other == key) = false from beq_eq_false_iff_ne.2 hko] at heK
        have HEK := Lib.hid heK
        have HOP2 := Lib.hid (show openS [(key, 2, Y)] other 2 (boxN 0) = none by rw [openS_one, if_neg (fun e => hko e.symm)])
        clear hM hk hkey hoth htc hR ho hy hko heK
        go_enter Tryz.func3, Tryz.ntmps3
        go_wp2_with (first
          | (go_at_call 4; refine (speaks_any _ (HM.out.below (below_of_none G0.out))).mono ?_; rintro e wa ⟨rfl, g⟩; have B1 := Lib.hid (B0.out.kept g); have K1 := Lib.hid (K0.out.kept g); have O1 := Lib.hid (O0.out.kept g); have G1 := Lib.hid (grown_trans' G0.out g); have qc := B1.out.at_ HSc.out; have qs := B1.out.at_ HSs.out; clear g)
          | (go_at_call 5; refine (long_at wa _ [c, s] 2 false rfl (by omega) HR.out).mono ?_; rintro e wb ⟨rfl, g⟩; have B2 := Lib.hid (B1.out.kept g); have K2 := Lib.hid (K1.out.kept g); have O2 := Lib.hid (O1.out.kept g); have G2 := Lib.hid (grown_trans' G1.out g); clear g qc qs)
          | refine wpList_buildVt rfl rfl (by first | rfl | (go_simp; rfl)) (run_buildZ _) ?_
          | (go_at_call 6; refine (snew_any (zeros 16) wb).mono ?_; rintro e wc ⟨rfl, ss, g⟩; have B3 := Lib.hid (B2.out.kept g); have K3 := Lib.hid (K2.out.kept g); have O3 := Lib.hid (O2.out.kept g); have G3 := Lib.hid (grown_trans' G2.out g); have HB3 := Lib.hid (show w.heap.size ≤ wb.heap.size + 1 by have := G2.out.size; omega); have BL3 := Lib.hid (show w.heap.size < wb.heap.size + 1 by have := B2.out.lt; omega); have KL3 := Lib.hid (show w.heap.size + 1 < wb.heap.size + 1 by have := K2.out.lt; omega); have OL3 := Lib.hid (show w.heap.size + 1 + 1 < wb.heap.size + 1 by have := O2.out.lt; omega); have S3 := Lib.hid ss; clear ss g)
          | refine wpList_loadC (off := 0) (p := bcells key) aggKy rfl (.tmp 4) rfl K3.out (whole_take LK.out) (by have z := LK.out; omega) (by first | rfl | go_simp) ?_
          | refine wpList_loadC (off := 0) (p := TC) aggTr rfl (.tmp 3) rfl B3.out (whole_take HL.out) (by have z := HL.out; omega) (by first | rfl | go_simp) ?_
          | (go_at_call 7; rw [← HTC.out]; refine (tseal_any _ (HM.out.below (below_of_none G3.out)) _ _ 0 S3.out key HKK.out c s c.data.toList s.data.toList k st en fl rfl rfl HKt.out HZc.out HZs.out).mono ?_; rw [HTC.out]; intro e wd h; unfold SealedT at h; rw [if_pos HO.out] at h; obtain ⟨A4, c4, r4, rfl, rb, ss, ww⟩ := h; rw [HY.out] at ss; have B4 := Lib.hid (B3.out.wrs0 ww (by have := BL3.out; omega)); have K4 := Lib.hid (K3.out.wrs0 ww (by have := KL3.out; omega)); have O4 := Lib.hid (O3.out.wrs0 ww (by have := OL3.out; omega)); have G4 := Lib.hid (wrs_new G3.out ww HB3.out); have R4 := Lib.hid rb; have S4 := Lib.hid ss; clear rb ss ww)
          | refine wpList_loadC (off := 0) (p := TC) aggTr rfl (.tmp 3) rfl B4.out (whole_take HL.out) (by have z := HL.out; omega) (by first | rfl | go_simp) ?_
          | (go_at_call 8; rw [← HTC.out]; refine (refRightT_any c s c.data.toList s.data.toList k st en fl _ rfl rfl HKt.out HZc.out HZs.out).mono ?_; rw [HTC.out]; rintro e we ⟨rfl, g⟩; rw [HO.out]; have B5 := Lib.hid (B4.out.kept g); have K5 := Lib.hid (K4.out.kept g); have O5 := Lib.hid (O4.out.kept g); have G5 := Lib.hid (grown_trans' G4.out g); have R5 := Lib.hid (R4.out.keptS g); have S5 := Lib.hid (S4.out.none g); clear g)
          | refine wpList_loadC (off := 0) (p := bcells key) aggKy rfl (.tmp 4) rfl K5.out (whole_take LK.out) (by have z := LK.out; omega) (by first | rfl | go_simp) ?_
          | (go_at_call 10; have hx := TA; refine (topen_any _ (HM.out.below (below_of_none G5.out)) _ _ r4 _ 0 S5.out key HKK.out A4 (boxN 0) 9 c4 (boxN_len 0) R5.out (by omega) (by simp) HPL.out (some Y) HOP1.out HOL.out).mono ?_; intro e wf h; obtain ⟨g, h⟩ := h; simp only at h; rw [if_pos HQ.out] at h; subst h; rw [HMV.out]; have B6 := Lib.hid (B5.out.kept g); have K6 := Lib.hid (K5.out.kept g); have O6 := Lib.hid (O5.out.kept g); have G6 := Lib.hid (grown_trans' G5.out g); have R6 := Lib.hid (R5.out.keptS g); have S6 := Lib.hid (S5.out.none g); clear g hx TA; have TB := Lib.hid True.intro; have TX := Lib.hid True.intro)
          | (have hx := TB; refine wpList_allocC zeroTr rfl rfl ?_)
          | (have hx := TB; refine wpList_storeC (off := 0) (p := TC) aggTr.hi rfl (.tmp 10) (.tmp 56) rfl (.agg TC.toArray) rfl HON.out (CB.new wf 25 tZero) HL.out (by have z1 := tZero_length; omega) (by first | rfl | go_simp) (by first | rfl | go_simp) ?_; intro wg h g; rw [over_all _ _ (by have z1 := tZero_length; have z2 := HL.out; omega)] at h; have gs := none_new (grown_alloc wf (.cells (tZero).toArray 25) none) g (Nat.le_refl _); have X7 := Lib.hid h; have B7 := Lib.hid (B6.out.kept gs); have K7 := Lib.hid (K6.out.kept gs); have O7 := Lib.hid (O6.out.kept gs); have G7 := Lib.hid (grown_trans' G6.out gs); have R7 := Lib.hid (R6.out.keptS gs); have S7 := Lib.hid (S6.out.none gs); clear h g gs hx TB; have TC1 := Lib.hid True.intro)
          | refine wpList_loadC (off := 0) (p := bcells other) aggKy rfl (.tmp 5) rfl O7.out (whole_take LO.out) (by have z := LO.out; omega) (by first | rfl | go_simp) ?_
          | (go_at_call 10; have hx := TC1; refine (topen_any _ (HM.out.below (below_of_none G7.out)) _ _ r4 _ 0 S7.out other HKO.out A4 (boxN 0) 9 c4 (boxN_len 0) R7.out (by omega) (by simp) HPL.out none HOP2.out (fun _ h => by cases h)).mono ?_; intro e wh h; obtain ⟨g, h⟩ := h; simp only at h; subst h; have X8 := Lib.hid (X7.out.kept g); have B8 := Lib.hid (B7.out.kept g); have K8 := Lib.hid (K7.out.kept g); have O8 := Lib.hid (O7.out.kept g); have G8 := Lib.hid (grown_trans' G7.out g); have R8 := Lib.hid (R7.out.keptS g); have S8 := Lib.hid (S7.out.none g); clear g hx TC1; have TD := Lib.hid True.intro)
          | (have hx := TD; refine wpList_allocC zeroTr rfl rfl ?_)
          | (have hx := TD; refine wpList_storeC (off := 0) (p := tZero) aggTr.hi rfl (.tmp 12) (.tmp 63) rfl (.agg tZero.toArray) rfl tZero_one (CB.new wh 25 tZero) tZero_length (by have z1 := tZero_length; omega) (by first | rfl | go_simp) (by first | rfl | go_simp) ?_; intro wi h g; rw [over_all _ _ (by have z1 := tZero_length; have z2 := tZero_length; omega)] at h; have gs := none_new (grown_alloc wh (.cells (tZero).toArray 25) none) g (Nat.le_refl _); have Y9 := Lib.hid h; have X9 := Lib.hid (X8.out.kept gs); have B9 := Lib.hid (B8.out.kept gs); have K9 := Lib.hid (K8.out.kept gs); have O9 := Lib.hid (O8.out.kept gs); have G9 := Lib.hid (grown_trans' G8.out gs); have R9 := Lib.hid (R8.out.keptS gs); have S9 := Lib.hid (S8.out.none gs); clear h g gs hx TD; have heK := HEK.out; have he1 := HEQT.out; have he2 := HEQZ.out; have he3 := HEQB.out)
          | refine wpList_loadC (off := 0) (p := bcells other) aggKy rfl (.tmp 5) rfl O9.out (whole_take LO.out) (by have z := LO.out; omega) (by first | rfl | go_simp) ?_
          | refine wpList_loadC (off := 0) (p := bcells key) aggKy rfl (.tmp 4) rfl K9.out (whole_take LK.out) (by have z := LK.out; omega) (by first | rfl | go_simp) ?_
          | (go_at_call 11; refine (open_any _ _ _ r4 _ 0 S9.out key 2 A4 (boxN 0) 9 c4 HKK.out (boxN_len 0) R9.out (by omega) (by simp) HPL.out).mono ?_; rw [HOP1.out]; rintro e wj ⟨g, A10, c10, rfl, -⟩; have Y10 := Lib.hid (Y9.out.kept g); have X10 := Lib.hid (X9.out.kept g); have B10 := Lib.hid (B9.out.kept g); have G10 := Lib.hid (grown_trans' G9.out g); clear g)
          | refine wpList_loadCg (off := 0) (p := TC) aggTr (by first | rfl | go_simp) (.tmp 10) rfl X10.out (whole_take HL.out) (by have z2 := HL.out; omega) (by first | rfl | go_simp) ?_
          | refine wpList_loadCg (off := 0) (p := TC) aggTr (by first | rfl | go_simp) (.tmp 3) rfl B10.out (whole_take HL.out) (by have z2 := HL.out; omega) (by first | rfl | go_simp) ?_
          | refine wpList_loadCg (off := 0) (p := tZero) aggTr (by first | rfl | go_simp) (.tmp 12) rfl Y10.out (whole_take tZero_length) (by have z2 := tZero_length; omega) (by first | rfl | go_simp) ?_
          | refine wpList_buildVg rfl (by first | rfl | go_simp) (by first | rfl | (go_simp; rfl)) (run_buildT0 _) ?_)
        go_ret
        exact ⟨rfl, below_of_none G10.out⟩
    · have HO := Lib.hid ho
      clear hM hk hkey hoth htc hR ho
      go_enter Tryz.func3, Tryz.ntmps3
      go_wp2_with (first
        | (go_at_call 4; refine (speaks_any _ (HM.out.below (below_of_none G0.out))).mono ?_; rintro e wa ⟨rfl, g⟩; have B1 := Lib.hid (B0.out.kept g); have K1 := Lib.hid (K0.out.kept g); have O1 := Lib.hid (O0.out.kept g); have G1 := Lib.hid (grown_trans' G0.out g); have qc := B1.out.at_ HSc.out; have qs := B1.out.at_ HSs.out; clear g)
        | (go_at_call 5; refine (long_at wa _ [c, s] 2 false rfl (by omega) HR.out).mono ?_; rintro e wb ⟨rfl, g⟩; have B2 := Lib.hid (B1.out.kept g); have K2 := Lib.hid (K1.out.kept g); have O2 := Lib.hid (O1.out.kept g); have G2 := Lib.hid (grown_trans' G1.out g); clear g qc qs)
        | refine wpList_buildVt rfl rfl (by first | rfl | (go_simp; rfl)) (run_buildZ _) ?_
        | (go_at_call 6; refine (snew_any (zeros 16) wb).mono ?_; rintro e wc ⟨rfl, ss, g⟩; have B3 := Lib.hid (B2.out.kept g); have K3 := Lib.hid (K2.out.kept g); have O3 := Lib.hid (O2.out.kept g); have G3 := Lib.hid (grown_trans' G2.out g); have HB3 := Lib.hid (show w.heap.size ≤ wb.heap.size + 1 by have := G2.out.size; omega); have BL3 := Lib.hid (show w.heap.size < wb.heap.size + 1 by have := B2.out.lt; omega); have KL3 := Lib.hid (show w.heap.size + 1 < wb.heap.size + 1 by have := K2.out.lt; omega); have OL3 := Lib.hid (show w.heap.size + 1 + 1 < wb.heap.size + 1 by have := O2.out.lt; omega); have S3 := Lib.hid ss; clear ss g)
        | refine wpList_loadC (off := 0) (p := bcells key) aggKy rfl (.tmp 4) rfl K3.out (whole_take LK.out) (by have z := LK.out; omega) (by first | rfl | go_simp) ?_
        | refine wpList_loadC (off := 0) (p := TC) aggTr rfl (.tmp 3) rfl B3.out (whole_take HL.out) (by have z := HL.out; omega) (by first | rfl | go_simp) ?_
        | (go_at_call 7; rw [← HTC.out]; refine (tseal_any _ (HM.out.below (below_of_none G3.out)) _ _ 0 S3.out key HKK.out c s c.data.toList s.data.toList k st en fl rfl rfl HKt.out HZc.out HZs.out).mono ?_; rw [HTC.out]; intro e wd h; unfold SealedT at h; rw [if_neg (by rw [HO.out]; simp)] at h; obtain ⟨rfl, g⟩ := h; have B4 := Lib.hid (B3.out.kept g); have G4 := Lib.hid (grown_trans' G3.out g); have S4 := Lib.hid (S3.out.none g); clear g)
        | refine wpList_loadC (off := 0) (p := TC) aggTr rfl (.tmp 3) rfl B4.out (whole_take HL.out) (by have z := HL.out; omega) (by first | rfl | go_simp) ?_
        | (go_at_call 8; rw [← HTC.out]; refine (refRightT_any c s c.data.toList s.data.toList k st en fl _ rfl rfl HKt.out HZc.out HZs.out).mono ?_; rw [HTC.out]; rintro e we ⟨rfl, g⟩; rw [HO.out]; have G5 := Lib.hid (grown_trans' G4.out g); have S5 := Lib.hid (S4.out.none g); clear g)
        | (go_at_call 9; refine (terms_none _ _ _ 0 S5.out).mono ?_; rintro e wf ⟨A6, c6, rfl, g⟩; have G6 := Lib.hid (grown_trans' G5.out g); clear g))
      go_ret
      exact ⟨rfl, below_of_none G6.out⟩
end Go.Proofs.YthgejidimnbplaaGreatDoor
