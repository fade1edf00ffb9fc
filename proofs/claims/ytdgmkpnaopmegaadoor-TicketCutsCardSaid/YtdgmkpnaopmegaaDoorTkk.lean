/- The walk of TicketKinds. -/
import Derived.Test.YtdgmkpnaopmegaaDoorTkg
import Derived.Test.YtdgmkpnaopmegaaDoorTkx
namespace Go.Proofs.YtdgmkpnaopmegaaDoor
open Go.RowKit

theorem long_at (w : World) (t : TypeId) (ls : List ByteArray) (n : Nat) (R : Bool) (hn : ls.length = n) (hb : n ≤ 10) (hR : (ls.any fun s => decide (300 < s.size)) = R) :
    Calls Tryd.prog 11 #[.slice (some ⟨w.heap.size, 0, none⟩) n n] (w.alloc (.cells (ls.map Value.string).toArray t)) fun e w' => e = .returned (.bool R) ∧ w.grownBy w' none := by
  subst hR
  refine (long_any w.heap.size n ls _ hn hb (fun k s hs => ?_)).mono ?_
  · exact (CB.new w t (ls.map Value.string)).at_ (by rw [List.getElem?_map, hs]; rfl)
  · rintro e w' ⟨rfl, rfl⟩
    exact ⟨rfl, grown_alloc _ _ _⟩
theorem CB.new2 (w : World) (o1 o2 : Obj) (t : TypeId) (cs : List Value) : CB (((w.alloc o1).alloc o2).alloc (.cells cs.toArray t)) (w.heap.size + 1 + 1) t cs := by
  have := CB.new ((w.alloc o1).alloc o2) t cs
  rw [World.size_alloc, World.size_alloc] at this
  exact this
theorem nat_of_u64 {n : Int} (h : (Lit.int .u64 n).wf = true) : ∃ m : Nat, n = (m : Int) ∧ m < 18446744073709551616 := by
  have := bounds_u64 h
  exact ⟨n.toNat, by omega, by omega⟩
theorem size_list (s : ByteArray) : s.data.toList.length = s.size := rfl
theorem tReads_other {fs : List Fd} (h : ∀ f ∈ fs, chk f = 0) (hne : fs.map (·.1) ≠ [1, 2, 3, 4, 5, 6]) : tReads (bytesF fs) = false := by
  rw [tReads, decide_eq_false (valuesOf_other h hne), Bool.false_and]
theorem aReads_other {fs : List Fd} (h : ∀ f ∈ fs, chk f = 0) (hne : fs.map (·.1) ≠ [11, 12, 13, 14]) : aReads (bytesF fs) = false := by
  rw [aReads, decide_eq_false (valuesOf_other h hne), Bool.false_and]
theorem gReads_other {fs : List Fd} (h : ∀ f ∈ fs, chk f = 0) (hne : fs.map (·.1) ≠ [21, 22, 23, 24, 25, 26]) : gReads (bytesF fs) = false := by
  rw [gReads, decide_eq_false (valuesOf_other h hne), Bool.false_and]

set_option maxRecDepth 100000 in
set_option maxHeartbeats 4000000 in
theorem kinds_any (w : World) (hM : ML w) (c s : ByteArray) (k : List UInt8) (st en fl : Int) (hk : k.length = 16) (c1 : ByteArray) (k1 : List UInt8) (ti : Int) (no1 : Nat) (hk1 : k1.length = 16) (hn1 : no1 < 18446744073709551616) (s2 : ByteArray) (k2 : List UInt8) (no2 : Nat) (st2 en2 fl2 : Int) (hk2 : k2.length = 16) (hn2 : no2 < 18446744073709551616) :
    Calls Tryd.prog 7 #[.agg (tcells c s k st en fl).toArray, .agg (acells c1 k1 ti (no1 : Int)).toArray, .agg (gcells s2 k2 (no2 : Int) st2 en2 fl2).toArray] w fun e w' => e = .returned (.bool true) ∧ Below w.heap.size w w' := by
  have HM := Lib.hid hM
  have HKt := Lib.hid hk
  have HKa := Lib.hid hk1
  have HKg := Lib.hid hk2
  have HNa := Lib.hid hn1
  have HNg := Lib.hid hn2
  obtain ⟨TC, htc⟩ : ∃ C, tcells c s k st en fl = C := ⟨_, rfl⟩
  have HTC := Lib.hid htc
  obtain ⟨AC, hac⟩ : ∃ C, acells c1 k1 ti (no1 : Int) = C := ⟨_, rfl⟩
  have HAC := Lib.hid hac
  obtain ⟨GC, hgc⟩ : ∃ C, gcells s2 k2 (no2 : Int) st2 en2 fl2 = C := ⟨_, rfl⟩
  have HGC := Lib.hid hgc
  have HSc := Lib.hid (tcells_c c s k st en fl hk)
  rw [htc] at HSc
  have HSs := Lib.hid (tcells_s c s k st en fl hk)
  rw [htc] at HSs
  have HSc1 := Lib.hid (acells_c c1 k1 ti (no1 : Int) hk1)
  rw [hac] at HSc1
  have HSs2 := Lib.hid (gcells_s s2 k2 (no2 : Int) st2 en2 fl2 hk2)
  rw [hgc] at HSs2
  have HLt := Lib.hid (show TC.length = 21 by rw [← htc]; exact tcells_length _ _ _ _ _ _ hk)
  have HLa := Lib.hid (show AC.length = 19 by rw [← hac]; exact acells_length _ _ _ _ hk1)
  have HLg := Lib.hid (show GC.length = 21 by rw [← hgc]; exact gcells_length _ _ _ _ _ _ hk2)
  rw [htc, hac, hgc]
  have B0t := Lib.hid (((CB.new w 25 TC).alloc (.cells AC.toArray 41)).alloc (.cells GC.toArray 50))
  have B0a := Lib.hid ((CB.new1 w (.cells TC.toArray 25) 41 AC).alloc (.cells GC.toArray 50))
  have B0g := Lib.hid (CB.new2 w (.cells TC.toArray 25) (.cells AC.toArray 41) 50 GC)
  have G0 := Lib.hid (grown_trans' (grown_trans' (grown_alloc w (.cells TC.toArray 25) none) (grown_alloc _ (.cells AC.toArray 41) none)) (grown_alloc _ (.cells GC.toArray 50) none))
  obtain ⟨R, hR⟩ : ∃ R, ([c, s, c1, s2].any fun s => decide (300 < s.size)) = R := ⟨_, rfl⟩
  have HR := Lib.hid hR
  cases R with
  | true =>
    clear hM hk hk1 hk2 hn1 hn2 htc hac hgc hR
    go_enter Tryd.func7, Tryd.ntmps7
    go_wp2_with (first
      | (go_at_call 10; refine (speaks_any _ (HM.out.below (below_of_none G0.out))).mono ?_; rintro e wa ⟨rfl, ga⟩; have B1t := Lib.hid (B0t.out.kept ga); have B1a := Lib.hid (B0a.out.kept ga); have B1g := Lib.hid (B0g.out.kept ga); have G1 := Lib.hid (grown_trans' G0.out ga); clear ga; have qc := B1t.out.at_ HSc.out; have qs := B1t.out.at_ HSs.out; have qc1 := B1a.out.at_ HSc1.out; have qs2 := B1g.out.at_ HSs2.out)
      | (go_at_call 11; refine (long_at wa _ [c, s, c1, s2] 4 true rfl (by omega) HR.out).mono ?_; rintro e wb ⟨rfl, gb⟩; have B2t := Lib.hid (B1t.out.kept gb); have B2a := Lib.hid (B1a.out.kept gb); have B2g := Lib.hid (B1g.out.kept gb); have G2 := Lib.hid (grown_trans' G1.out gb); clear gb qc qs qc1 qs2))
    go_ret
    exact ⟨rfl, below_of_none G2.out⟩
  | false =>
    simp only [List.any_cons, List.any_nil, Bool.or_eq_false_iff, decide_eq_false_iff_not] at hR
    have HZc := Lib.hid (show c.data.toList.length ≤ 1000000 by rw [size_list]; omega)
    have HZs := Lib.hid (show s.data.toList.length ≤ 1000000 by rw [size_list]; omega)
    have HZc1 := Lib.hid (show c1.data.toList.length ≤ 1000000 by rw [size_list]; omega)
    have HZs2 := Lib.hid (show s2.data.toList.length ≤ 1000000 by rw [size_list]; omega)
    rcases bool_cases (b := tOk c.data.toList s.data.toList st en fl) with hot | hot
    · have HOt := Lib.hid hot
      obtain ⟨Yt, hyt⟩ : ∃ Y, bytesF (tFields c.data.toList s.data.toList k st.toNat en.toNat fl.toNat) = Y := ⟨_, rfl⟩
      have HYt := Lib.hid hyt
      obtain ⟨mt, hmt⟩ : ∃ m, Yt.length = m := ⟨_, rfl⟩
      have HMt := Lib.hid hmt
      have hcxt := tFields_chk c.data.toList s.data.toList k st.toNat en.toNat fl.toNat (by rw [size_list]; omega) (by rw [size_list]; omega) hk
      have HBt := Lib.hid (show mt ≤ 1000000 by rw [← hmt, ← hyt, bytesF_length]; have := tFields_tot c.data.toList s.data.toList k st.toNat en.toNat fl.toNat (by rw [size_list]; omega) (by rw [size_list]; omega) hk; omega)
      have HQ0 := Lib.hid (show aReads Yt = false by rw [← hyt]; exact aReads_other hcxt (by simp [tFields]))
      have HQ1 := Lib.hid (show gReads Yt = false by rw [← hyt]; exact gReads_other hcxt (by simp [tFields]))
      clear hyt hmt hcxt
      rcases bool_cases (b := aOk c1.data.toList ti) with hoa | hoa
      · have HOa := Lib.hid hoa
        obtain ⟨Ya, hya⟩ : ∃ Y, bytesF (aFields c1.data.toList k1 ti.toNat no1) = Y := ⟨_, rfl⟩
        have HYa := Lib.hid hya
        obtain ⟨ma, hma⟩ : ∃ m, Ya.length = m := ⟨_, rfl⟩
        have HMa := Lib.hid hma
        have hcxa := aFields_chk c1.data.toList k1 ti.toNat no1 (by rw [size_list]; omega) hk1
        have HBa := Lib.hid (show ma ≤ 1000000 by rw [← hma, ← hya, bytesF_length]; have := aFields_tot c1.data.toList k1 ti.toNat no1 (by rw [size_list]; omega) hk1; omega)
        have HQ2 := Lib.hid (show tReads Ya = false by rw [← hya]; exact tReads_other hcxa (by simp [aFields]))
        have HQ3 := Lib.hid (show gReads Ya = false by rw [← hya]; exact gReads_other hcxa (by simp [aFields]))
        clear hya hma hcxa
        rcases bool_cases (b := gOk s2.data.toList st2 en2 fl2) with hog | hog
        · have HOg := Lib.hid hog
          obtain ⟨Yg, hyg⟩ : ∃ Y, bytesF (gFields s2.data.toList k2 no2 st2.toNat en2.toNat fl2.toNat) = Y := ⟨_, rfl⟩
          have HYg := Lib.hid hyg
          obtain ⟨mg, hmg⟩ : ∃ m, Yg.length = m := ⟨_, rfl⟩
          have HMg := Lib.hid hmg
          have hcxg := gFields_chk s2.data.toList k2 no2 st2.toNat en2.toNat fl2.toNat (by rw [size_list]; omega) hk2
          have HBg := Lib.hid (show mg ≤ 1000000 by rw [← hmg, ← hyg, bytesF_length]; have := gFields_tot s2.data.toList k2 no2 st2.toNat en2.toNat fl2.toNat (by rw [size_list]; omega) hk2; omega)
          have HQ4 := Lib.hid (show tReads Yg = false by rw [← hyg]; exact tReads_other hcxg (by simp [gFields]))
          have HQ5 := Lib.hid (show aReads Yg = false by rw [← hyg]; exact aReads_other hcxg (by simp [gFields]))
          clear hyg hmg hcxg
          have TK0 := Lib.hid True.intro
          clear hot hoa hog hM hk hk1 hk2 hn1 hn2 htc hac hgc hR
          go_enter Tryd.func7, Tryd.ntmps7
          go_wp2_with (first
            | (go_at_call 10; refine (speaks_any _ (HM.out.below (below_of_none G0.out))).mono ?_; rintro e wa ⟨rfl, ga⟩; have B1t := Lib.hid (B0t.out.kept ga); have B1a := Lib.hid (B0a.out.kept ga); have B1g := Lib.hid (B0g.out.kept ga); have G1 := Lib.hid (grown_trans' G0.out ga); clear ga; have qc := B1t.out.at_ HSc.out; have qs := B1t.out.at_ HSs.out; have qc1 := B1a.out.at_ HSc1.out; have qs2 := B1g.out.at_ HSs2.out)
            | (go_at_call 11; refine (long_at wa _ [c, s, c1, s2] 4 false rfl (by omega) HR.out).mono ?_; rintro e wb ⟨rfl, gb⟩; have B2t := Lib.hid (B1t.out.kept gb); have B2a := Lib.hid (B1a.out.kept gb); have B2g := Lib.hid (B1g.out.kept gb); have G2 := Lib.hid (grown_trans' G1.out gb); clear gb qc qs qc1 qs2)
            | refine wpList_loadC (off := 0) (p := TC) aggTr rfl (.tmp 3) rfl B2t.out (whole_take HLt.out) (by have z2 := HLt.out; omega) (by first | rfl | go_simp) ?_
            | (go_at_call 12; rw [← HTC.out]; refine (twrite_any c s c.data.toList s.data.toList k st en fl _ (HM.out.below (below_of_none G2.out)) rfl rfl HKt.out HZc.out HZs.out).mono ?_; rw [HTC.out]; intro e wt h; obtain ⟨g, h⟩ := h; rw [if_pos HOt.out] at h; obtain ⟨v, rfl, b⟩ := h; obtain ⟨At, capt, rfl, r⟩ := b; rw [HYt.out, HMt.out]; rw [HYt.out] at r; have R3t := Lib.hid r; clear r; have B3t := Lib.hid (B2t.out.kept g); have B3a := Lib.hid (B2a.out.kept g); have B3g := Lib.hid (B2g.out.kept g); have G3 := Lib.hid (grown_trans' G2.out g); clear g)
            | refine wpList_loadC (off := 0) (p := AC) aggAr rfl (.tmp 4) rfl B3a.out (whole_take HLa.out) (by have z2 := HLa.out; omega) (by first | rfl | go_simp) ?_
            | (go_at_call 16; rw [← HAC.out]; refine (awrite_any c1 c1.data.toList k1 ti no1 _ (HM.out.below (below_of_none G3.out)) rfl HKa.out HZc1.out HNa.out).mono ?_; rw [HAC.out]; intro e wa h; obtain ⟨g, h⟩ := h; rw [if_pos HOa.out] at h; obtain ⟨v, rfl, b⟩ := h; obtain ⟨Aa, capa, rfl, r⟩ := b; rw [HYa.out, HMa.out]; rw [HYa.out] at r; have R4a := Lib.hid r; clear r; have B4t := Lib.hid (B3t.out.kept g); have B4a := Lib.hid (B3a.out.kept g); have B4g := Lib.hid (B3g.out.kept g); have R4t := Lib.hid ((R3t.out.kept g (Nat.le_refl _)).more g.size); have G4 := Lib.hid (grown_trans' G3.out g); clear g)
            | refine wpList_loadC (off := 0) (p := GC) aggGr rfl (.tmp 5) rfl B4g.out (whole_take HLg.out) (by have z2 := HLg.out; omega) (by first | rfl | go_simp) ?_
            | (go_at_call 20; rw [← HGC.out]; refine (gwrite_any s2 s2.data.toList k2 st2 en2 fl2 no2 _ (HM.out.below (below_of_none G4.out)) rfl HKg.out HZs2.out HNg.out).mono ?_; rw [HGC.out]; intro e wg h; obtain ⟨g, h⟩ := h; rw [if_pos HOg.out] at h; obtain ⟨v, rfl, b⟩ := h; obtain ⟨Ag, capg, rfl, r⟩ := b; rw [HYg.out, HMg.out]; rw [HYg.out] at r; have R5g := Lib.hid r; clear r; have B5t := Lib.hid (B4t.out.kept g); have B5a := Lib.hid (B4a.out.kept g); have B5g := Lib.hid (B4g.out.kept g); have R5t := Lib.hid ((R4t.out.kept g (Nat.le_refl _)).more g.size); have R5a := Lib.hid ((R4a.out.kept g (Nat.le_refl _)).more g.size); have G5 := Lib.hid (grown_trans' G4.out g); clear g)
            | (go_at_call 18; have hx := TK0; clear hx; refine (aRead_any mt capt At Yt _ (HM.out.below (below_of_none G5.out)) HMt.out HBt.out R5t.out).mono ?_; intro e wr0 h; obtain ⟨g, h⟩ := h; rw [if_neg (by rw [HQ0.out]; simp)] at h; subst h; have gr0 := Lib.hid g; clear g TK0; have TK1 := Lib.hid True.intro)
            | (refine wpList_storeC (off := 0) (p := aZero) aggAr.hi rfl (.tmp 13) (.tmp 65) rfl (.agg aZero.toArray) rfl aZero_one (CB.new wr0 41 aZero) aZero_length (by rw [aZero_length]; omega) (by first | rfl | go_simp) rfl ?_; intro ws0 h g; have gs := none_new (grown_trans' gr0.out (grown_alloc wr0 _ none)) g gr0.out.size; have G6 := Lib.hid (grown_trans' G5.out gs); have R6t := Lib.hid ((R5t.out.kept gs (Nat.le_refl _)).more gs.size); have R6a := Lib.hid ((R5a.out.kept gs (Nat.le_refl _)).more gs.size); have R6g := Lib.hid ((R5g.out.kept gs (Nat.le_refl _)).more gs.size); clear h g gs)
            | (go_at_call 22; have hx := TK1; clear hx; refine (gRead_any mt capt At Yt _ (HM.out.below (below_of_none G6.out)) HMt.out HBt.out R6t.out).mono ?_; intro e wr1 h; obtain ⟨g, h⟩ := h; rw [if_neg (by rw [HQ1.out]; simp)] at h; subst h; have gr1 := Lib.hid g; clear g TK1; have TK2 := Lib.hid True.intro)
            | (refine wpList_storeC (off := 0) (p := gZero) aggGr.hi rfl (.tmp 15) (.tmp 70) rfl (.agg gZero.toArray) rfl gZero_one (CB.new wr1 50 gZero) gZero_length (by rw [gZero_length]; omega) (by first | rfl | go_simp) rfl ?_; intro ws1 h g; have gs := none_new (grown_trans' gr1.out (grown_alloc wr1 _ none)) g gr1.out.size; have G7 := Lib.hid (grown_trans' G6.out gs); have R7t := Lib.hid ((R6t.out.kept gs (Nat.le_refl _)).more gs.size); have R7a := Lib.hid ((R6a.out.kept gs (Nat.le_refl _)).more gs.size); have R7g := Lib.hid ((R6g.out.kept gs (Nat.le_refl _)).more gs.size); clear h g gs)
            | (go_at_call 14; have hx := TK2; clear hx; refine (tRead_any ma capa Aa Ya _ (HM.out.below (below_of_none G7.out)) HMa.out HBa.out R7a.out).mono ?_; intro e wr2 h; obtain ⟨g, h⟩ := h; rw [if_neg (by rw [HQ2.out]; simp)] at h; subst h; have gr2 := Lib.hid g; clear g TK2; have TK3 := Lib.hid True.intro)
            | (refine wpList_storeC (off := 0) (p := tZero) aggTr.hi rfl (.tmp 17) (.tmp 75) rfl (.agg tZero.toArray) rfl tZero_one (CB.new wr2 25 tZero) tZero_length (by rw [tZero_length]; omega) (by first | rfl | go_simp) rfl ?_; intro ws2 h g; have gs := none_new (grown_trans' gr2.out (grown_alloc wr2 _ none)) g gr2.out.size; have G8 := Lib.hid (grown_trans' G7.out gs); have R8t := Lib.hid ((R7t.out.kept gs (Nat.le_refl _)).more gs.size); have R8a := Lib.hid ((R7a.out.kept gs (Nat.le_refl _)).more gs.size); have R8g := Lib.hid ((R7g.out.kept gs (Nat.le_refl _)).more gs.size); clear h g gs)
            | (go_at_call 22; have hx := TK3; clear hx; refine (gRead_any ma capa Aa Ya _ (HM.out.below (below_of_none G8.out)) HMa.out HBa.out R8a.out).mono ?_; intro e wr3 h; obtain ⟨g, h⟩ := h; rw [if_neg (by rw [HQ3.out]; simp)] at h; subst h; have gr3 := Lib.hid g; clear g TK3; have TK4 := Lib.hid True.intro)
            | (refine wpList_storeC (off := 0) (p := gZero) aggGr.hi rfl (.tmp 19) (.tmp 80) rfl (.agg gZero.toArray) rfl gZero_one (CB.new wr3 50 gZero) gZero_length (by rw [gZero_length]; omega) (by first | rfl | go_simp) rfl ?_; intro ws3 h g; have gs := none_new (grown_trans' gr3.out (grown_alloc wr3 _ none)) g gr3.out.size; have G9 := Lib.hid (grown_trans' G8.out gs); have R9t := Lib.hid ((R8t.out.kept gs (Nat.le_refl _)).more gs.size); have R9a := Lib.hid ((R8a.out.kept gs (Nat.le_refl _)).more gs.size); have R9g := Lib.hid ((R8g.out.kept gs (Nat.le_refl _)).more gs.size); clear h g gs)
            | (go_at_call 14; have hx := TK4; clear hx; refine (tRead_any mg capg Ag Yg _ (HM.out.below (below_of_none G9.out)) HMg.out HBg.out R9g.out).mono ?_; intro e wr4 h; obtain ⟨g, h⟩ := h; rw [if_neg (by rw [HQ4.out]; simp)] at h; subst h; have gr4 := Lib.hid g; clear g TK4; have TK5 := Lib.hid True.intro)
            | (refine wpList_storeC (off := 0) (p := tZero) aggTr.hi rfl (.tmp 21) (.tmp 85) rfl (.agg tZero.toArray) rfl tZero_one (CB.new wr4 25 tZero) tZero_length (by rw [tZero_length]; omega) (by first | rfl | go_simp) rfl ?_; intro ws4 h g; have gs := none_new (grown_trans' gr4.out (grown_alloc wr4 _ none)) g gr4.out.size; have G10 := Lib.hid (grown_trans' G9.out gs); have R10t := Lib.hid ((R9t.out.kept gs (Nat.le_refl _)).more gs.size); have R10a := Lib.hid ((R9a.out.kept gs (Nat.le_refl _)).more gs.size); have R10g := Lib.hid ((R9g.out.kept gs (Nat.le_refl _)).more gs.size); clear h g gs)
            | (go_at_call 18; have hx := TK5; clear hx; refine (aRead_any mg capg Ag Yg _ (HM.out.below (below_of_none G10.out)) HMg.out HBg.out R10g.out).mono ?_; intro e wr5 h; obtain ⟨g, h⟩ := h; rw [if_neg (by rw [HQ5.out]; simp)] at h; subst h; have gr5 := Lib.hid g; clear g TK5; have TK6 := Lib.hid True.intro)
            | (refine wpList_storeC (off := 0) (p := aZero) aggAr.hi rfl (.tmp 23) (.tmp 90) rfl (.agg aZero.toArray) rfl aZero_one (CB.new wr5 41 aZero) aZero_length (by rw [aZero_length]; omega) (by first | rfl | go_simp) rfl ?_; intro ws5 h g; have gs := none_new (grown_trans' gr5.out (grown_alloc wr5 _ none)) g gr5.out.size; have G11 := Lib.hid (grown_trans' G10.out gs); have R11t := Lib.hid ((R10t.out.kept gs (Nat.le_refl _)).more gs.size); have R11a := Lib.hid ((R10a.out.kept gs (Nat.le_refl _)).more gs.size); have R11g := Lib.hid ((R10g.out.kept gs (Nat.le_refl _)).more gs.size); clear h g gs)
            | refine wpList_allocC zeroTr rfl rfl ?_
            | refine wpList_allocC zeroAr rfl rfl ?_
            | refine wpList_allocC zeroGr rfl rfl ?_)
          go_ret
          exact ⟨rfl, below_of_none G11.out⟩
        · have HOg := Lib.hid hog
          clear hM hk hk1 hk2 hn1 hn2 htc hac hgc hR
          go_enter Tryd.func7, Tryd.ntmps7
          go_wp2_with (first
            | (go_at_call 10; refine (speaks_any _ (HM.out.below (below_of_none G0.out))).mono ?_; rintro e wa ⟨rfl, ga⟩; have B1t := Lib.hid (B0t.out.kept ga); have B1a := Lib.hid (B0a.out.kept ga); have B1g := Lib.hid (B0g.out.kept ga); have G1 := Lib.hid (grown_trans' G0.out ga); clear ga; have qc := B1t.out.at_ HSc.out; have qs := B1t.out.at_ HSs.out; have qc1 := B1a.out.at_ HSc1.out; have qs2 := B1g.out.at_ HSs2.out)
            | (go_at_call 11; refine (long_at wa _ [c, s, c1, s2] 4 false rfl (by omega) HR.out).mono ?_; rintro e wb ⟨rfl, gb⟩; have B2t := Lib.hid (B1t.out.kept gb); have B2a := Lib.hid (B1a.out.kept gb); have B2g := Lib.hid (B1g.out.kept gb); have G2 := Lib.hid (grown_trans' G1.out gb); clear gb qc qs qc1 qs2)
            | refine wpList_loadC (off := 0) (p := TC) aggTr rfl (.tmp 3) rfl B2t.out (whole_take HLt.out) (by have z2 := HLt.out; omega) (by first | rfl | go_simp) ?_
            | (go_at_call 12; rw [← HTC.out]; refine (twrite_any c s c.data.toList s.data.toList k st en fl _ (HM.out.below (below_of_none G2.out)) rfl rfl HKt.out HZc.out HZs.out).mono ?_; rw [HTC.out]; intro e wt h; obtain ⟨g, h⟩ := h; rw [if_pos HOt.out] at h; obtain ⟨v, rfl, b⟩ := h; obtain ⟨At, capt, rfl, r⟩ := b; rw [HYt.out, HMt.out]; rw [HYt.out] at r; have R3t := Lib.hid r; clear r; have B3t := Lib.hid (B2t.out.kept g); have B3a := Lib.hid (B2a.out.kept g); have B3g := Lib.hid (B2g.out.kept g); have G3 := Lib.hid (grown_trans' G2.out g); clear g)
            | refine wpList_loadC (off := 0) (p := AC) aggAr rfl (.tmp 4) rfl B3a.out (whole_take HLa.out) (by have z2 := HLa.out; omega) (by first | rfl | go_simp) ?_
            | (go_at_call 16; rw [← HAC.out]; refine (awrite_any c1 c1.data.toList k1 ti no1 _ (HM.out.below (below_of_none G3.out)) rfl HKa.out HZc1.out HNa.out).mono ?_; rw [HAC.out]; intro e wa h; obtain ⟨g, h⟩ := h; rw [if_pos HOa.out] at h; obtain ⟨v, rfl, b⟩ := h; obtain ⟨Aa, capa, rfl, r⟩ := b; rw [HYa.out, HMa.out]; rw [HYa.out] at r; have R4a := Lib.hid r; clear r; have B4t := Lib.hid (B3t.out.kept g); have B4a := Lib.hid (B3a.out.kept g); have B4g := Lib.hid (B3g.out.kept g); have R4t := Lib.hid ((R3t.out.kept g (Nat.le_refl _)).more g.size); have G4 := Lib.hid (grown_trans' G3.out g); clear g)
            | refine wpList_loadC (off := 0) (p := GC) aggGr rfl (.tmp 5) rfl B4g.out (whole_take HLg.out) (by have z2 := HLg.out; omega) (by first | rfl | go_simp) ?_
            | (go_at_call 20; rw [← HGC.out]; refine (gwrite_any s2 s2.data.toList k2 st2 en2 fl2 no2 _ (HM.out.below (below_of_none G4.out)) rfl HKg.out HZs2.out HNg.out).mono ?_; rw [HGC.out]; intro e wg h; obtain ⟨g, h⟩ := h; rw [if_neg (by rw [HOg.out]; simp)] at h; subst h; have B5t := Lib.hid (B4t.out.kept g); have B5a := Lib.hid (B4a.out.kept g); have B5g := Lib.hid (B4g.out.kept g); have G5 := Lib.hid (grown_trans' G4.out g); clear g))
          go_ret
          exact ⟨rfl, below_of_none G5.out⟩
      · have HOa := Lib.hid hoa
        clear hM hk hk1 hk2 hn1 hn2 htc hac hgc hR
        go_enter Tryd.func7, Tryd.ntmps7
        go_wp2_with (first
          | (go_at_call 10; refine (speaks_any _ (HM.out.below (below_of_none G0.out))).mono ?_; rintro e wa ⟨rfl, ga⟩; have B1t := Lib.hid (B0t.out.kept ga); have B1a := Lib.hid (B0a.out.kept ga); have B1g := Lib.hid (B0g.out.kept ga); have G1 := Lib.hid (grown_trans' G0.out ga); clear ga; have qc := B1t.out.at_ HSc.out; have qs := B1t.out.at_ HSs.out; have qc1 := B1a.out.at_ HSc1.out; have qs2 := B1g.out.at_ HSs2.out)
          | (go_at_call 11; refine (long_at wa _ [c, s, c1, s2] 4 false rfl (by omega) HR.out).mono ?_; rintro e wb ⟨rfl, gb⟩; have B2t := Lib.hid (B1t.out.kept gb); have B2a := Lib.hid (B1a.out.kept gb); have B2g := Lib.hid (B1g.out.kept gb); have G2 := Lib.hid (grown_trans' G1.out gb); clear gb qc qs qc1 qs2)
          | refine wpList_loadC (off := 0) (p := TC) aggTr rfl (.tmp 3) rfl B2t.out (whole_take HLt.out) (by have z2 := HLt.out; omega) (by first | rfl | go_simp) ?_
          | (go_at_call 12; rw [← HTC.out]; refine (twrite_any c s c.data.toList s.data.toList k st en fl _ (HM.out.below (below_of_none G2.out)) rfl rfl HKt.out HZc.out HZs.out).mono ?_; rw [HTC.out]; intro e wt h; obtain ⟨g, h⟩ := h; rw [if_pos HOt.out] at h; obtain ⟨v, rfl, b⟩ := h; obtain ⟨At, capt, rfl, r⟩ := b; rw [HYt.out, HMt.out]; rw [HYt.out] at r; have R3t := Lib.hid r; clear r; have B3t := Lib.hid (B2t.out.kept g); have B3a := Lib.hid (B2a.out.kept g); have B3g := Lib.hid (B2g.out.kept g); have G3 := Lib.hid (grown_trans' G2.out g); clear g)
          | refine wpList_loadC (off := 0) (p := AC) aggAr rfl (.tmp 4) rfl B3a.out (whole_take HLa.out) (by have z2 := HLa.out; omega) (by first | rfl | go_simp) ?_
          | (go_at_call 16; rw [← HAC.out]; refine (awrite_any c1 c1.data.toList k1 ti no1 _ (HM.out.below (below_of_none G3.out)) rfl HKa.out HZc1.out HNa.out).mono ?_; rw [HAC.out]; intro e wa h; obtain ⟨g, h⟩ := h; rw [if_neg (by rw [HOa.out]; simp)] at h; subst h; have B4t := Lib.hid (B3t.out.kept g); have B4a := Lib.hid (B3a.out.kept g); have B4g := Lib.hid (B3g.out.kept g); have G4 := Lib.hid (grown_trans' G3.out g); clear g)
          | refine wpList_loadC (off := 0) (p := GC) aggGr rfl (.tmp 5) rfl B4g.out (whole_take HLg.out) (by have z2 := HLg.out; omega) (by first | rfl | go_simp) ?_
          | (go_at_call 20; rw [← HGC.out]; refine (gwrite_any s2 s2.data.toList k2 st2 en2 fl2 no2 _ (HM.out.below (below_of_none G4.out)) rfl HKg.out HZs2.out HNg.out).mono ?_; rw [HGC.out]; intro e wg h; obtain ⟨ug, ng, rfl, g⟩ := h.weak; clear h; have B5t := Lib.hid (B4t.out.kept g); have B5a := Lib.hid (B4a.out.kept g); have B5g := Lib.hid (B4g.out.kept g); have G5 := Lib.hid (grown_trans' G4.out g); clear g))
        go_ret
        exact ⟨rfl, below_of_none G5.out⟩
    · have HOt := Lib.hid hot
      clear hM hk hk1 hk2 hn1 hn2 htc hac hgc hR
      go_enter Tryd.func7, Tryd.ntmps7
      go_wp2_with (first
        | (go_at_call 10; refine (speaks_any _ (HM.out.below (below_of_none G0.out))).mono ?_; rintro e wa ⟨rfl, ga⟩; have B1t := Lib.hid (B0t.out.kept ga); have B1a := Lib.hid (B0a.out.kept ga); have B1g := Lib.hid (B0g.out.kept ga); have G1 := Lib.hid (grown_trans' G0.out ga); clear ga; have qc := B1t.out.at_ HSc.out; have qs := B1t.out.at_ HSs.out; have qc1 := B1a.out.at_ HSc1.out; have qs2 := B1g.out.at_ HSs2.out)
        | (go_at_call 11; refine (long_at wa _ [c, s, c1, s2] 4 false rfl (by omega) HR.out).mono ?_; rintro e wb ⟨rfl, gb⟩; have B2t := Lib.hid (B1t.out.kept gb); have B2a := Lib.hid (B1a.out.kept gb); have B2g := Lib.hid (B1g.out.kept gb); have G2 := Lib.hid (grown_trans' G1.out gb); clear gb qc qs qc1 qs2)
        | refine wpList_loadC (off := 0) (p := TC) aggTr rfl (.tmp 3) rfl B2t.out (whole_take HLt.out) (by have z2 := HLt.out; omega) (by first | rfl | go_simp) ?_
        | (go_at_call 12; rw [← HTC.out]; refine (twrite_any c s c.data.toList s.data.toList k st en fl _ (HM.out.below (below_of_none G2.out)) rfl rfl HKt.out HZc.out HZs.out).mono ?_; rw [HTC.out]; intro e wt h; obtain ⟨g, h⟩ := h; rw [if_neg (by rw [HOt.out]; simp)] at h; subst h; have B3t := Lib.hid (B2t.out.kept g); have B3a := Lib.hid (B2a.out.kept g); have B3g := Lib.hid (B2g.out.kept g); have G3 := Lib.hid (grown_trans' G2.out g); clear g)
        | refine wpList_loadC (off := 0) (p := AC) aggAr rfl (.tmp 4) rfl B3a.out (whole_take HLa.out) (by have z2 := HLa.out; omega) (by first | rfl | go_simp) ?_
        | (go_at_call 16; rw [← HAC.out]; refine (awrite_any c1 c1.data.toList k1 ti no1 _ (HM.out.below (below_of_none G3.out)) rfl HKa.out HZc1.out HNa.out).mono ?_; rw [HAC.out]; intro e wa h; obtain ⟨ua, na, rfl, g⟩ := h.weak; clear h; have B4t := Lib.hid (B3t.out.kept g); have B4a := Lib.hid (B3a.out.kept g); have B4g := Lib.hid (B3g.out.kept g); have G4 := Lib.hid (grown_trans' G3.out g); clear g)
        | refine wpList_loadC (off := 0) (p := GC) aggGr rfl (.tmp 5) rfl B4g.out (whole_take HLg.out) (by have z2 := HLg.out; omega) (by first | rfl | go_simp) ?_
        | (go_at_call 20; rw [← HGC.out]; refine (gwrite_any s2 s2.data.toList k2 st2 en2 fl2 no2 _ (HM.out.below (below_of_none G4.out)) rfl HKg.out HZs2.out HNg.out).mono ?_; rw [HGC.out]; intro e wg h; obtain ⟨ug, ng, rfl, g⟩ := h.weak; clear h; have B5t := Lib.hid (B4t.out.kept g); have B5a := Lib.hid (B4a.out.kept g); have B5g := Lib.hid (B4g.out.kept g); have G5 := Lib.hid (grown_trans' G4.out g); clear g))
      go_ret
      exact ⟨rfl, below_of_none G5.out⟩

theorem walk_TicketKinds (w : World) (hM : ML w) (c s : ByteArray) (k : List UInt8) (st en fl : Int) (hk : k.length = 16) (_ : (Lit.int .i64 st).wf = true) (_ : (Lit.int .i64 en).wf = true) (_ : (Lit.int .i64 fl).wf = true)
    (c1 : ByteArray) (k1 : List UInt8) (ti no1 : Int) (hk1 : k1.length = 16) (_ : (Lit.int .i64 ti).wf = true) (h1 : (Lit.int .u64 no1).wf = true)
    (s2 : ByteArray) (k2 : List UInt8) (no2 st2 en2 fl2 : Int) (hk2 : k2.length = 16) (h2 : (Lit.int .u64 no2).wf = true) (_ : (Lit.int .i64 st2).wf = true) (_ : (Lit.int .i64 en2).wf = true) (_ : (Lit.int .i64 fl2).wf = true) :
    Calls Tryd.prog 7 #[.agg (tcells c s k st en fl).toArray, .agg (acells c1 k1 ti no1).toArray, .agg (gcells s2 k2 no2 st2 en2 fl2).toArray] w fun e w' => e = .returned (.bool true) ∧ Below w.heap.size w w' := by
  obtain ⟨m1, rfl, hm1⟩ := nat_of_u64 h1
  obtain ⟨m2, rfl, hm2⟩ := nat_of_u64 h2
  exact kinds_any w hM c s k st en fl hk c1 k1 ti m1 hk1 hm1 s2 k2 m2 st2 en2 fl2 hk2 hm2
end Go.Proofs.YtdgmkpnaopmegaaDoor
