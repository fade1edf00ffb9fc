/- The walk of TicketCuts. -/
import Derived.Test.YtdgmkpnaopmegaaDoorTkm
import Derived.Test.YtdgmkpnaopmegaaDoorTkk
import Derived.Test.YtdgmkpnaopmegaaDoorTke
namespace Go.Proofs.YtdgmkpnaopmegaaDoor
open Go.RowKit

/-- Two structs of the same cells are one. -/
theorem RB.row2 {w w' : World} {A : Option Addr} {l : List UInt8} {cap : Nat} (h : RB w w.heap.size A l cap) (hg : w.grownBy w' none) : RB w' w'.heap.size A l cap := (h.kept hg (Nat.le_refl _)).more hg.size

theorem grown_own6 {w a b : World} {row : Option Nat} (h : w.grownBy a none) (k : a.grownBy b row) (hr : ∀ x, row = some x → w.heap.size ≤ x) : w.grownBy b none := grownR h k hr
theorem CB.row6 {w w' : World} {g : Nat} {t : TypeId} {cs : List Value} {r : Option Nat} (h : CB w g t cs) (hg : w.grownBy w' r) (hr : ∀ x, r = some x → g < x) : CB w' g t cs := h.row hg (fun x hx => by have := hr x hx; omega)

set_option maxRecDepth 100000 in
set_option maxHeartbeats 4000000 in
theorem cuts_any (w : World) (hM : ML w) (c s : ByteArray) (k : List UInt8) (st en fl : Int) (hk : k.length = 16) (kk : Int) (A : Option Addr) (l : List UInt8) (cap : Nat) (h : RB w w.heap.size A l cap) :
    Calls Tryd.prog 8 #[.agg (tcells c s k st en fl).toArray, .int .i64 kk, .slice A l.length cap] w fun e w' => e = .returned (.bool true) ∧ Below w.heap.size w w' := by
  have HM := Lib.hid hM
  have HKt := Lib.hid hk
  have H9 := Lib.hid h
  obtain ⟨nl, hnl⟩ : ∃ n, l.length = n := ⟨_, rfl⟩
  have HNL := Lib.hid hnl
  rw [hnl]
  obtain ⟨TC, htc⟩ : ∃ C, tcells c s k st en fl = C := ⟨_, rfl⟩
  have HTC := Lib.hid htc
  have HSc := Lib.hid (tcells_c c s k st en fl hk)
  rw [htc] at HSc
  have HSs := Lib.hid (tcells_s c s k st en fl hk)
  rw [htc] at HSs
  have HL := Lib.hid (show TC.length = 21 by rw [← htc]; exact tcells_length _ _ _ _ _ _ hk)
  have HON := Lib.hid (show ∀ u ∈ TC, u.oneCell' = true by rw [← htc]; exact tcells_one _ _ _ _ _ _)
  have HEQ9 := Lib.hid (show ∀ W, (Op.equalIn 10000 25 (.agg TC.toArray) (.agg TC.toArray)).run Tryd.prog W = .ok true W from fun W => by rw [← htc]; exact run_eq_t c s k st en fl hk W)
  rw [htc]
  have TKL := Lib.hid True.intro
  have B0 := Lib.hid (CB.new w 25 TC)
  have G0 := Lib.hid (grown_alloc w (.cells TC.toArray 25) none)
  obtain ⟨R, hR⟩ : ∃ R, ([c, s].any fun s => decide (300 < s.size)) = R := ⟨_, rfl⟩
  have HR := Lib.hid hR
  cases R with
  | true =>
    clear hM hk h hnl htc hR
    go_enter Tryd.func8, Tryd.ntmps8
    go_wp2_with (first
      | (go_at_call 10; refine (speaks_any _ (HM.out.below (below_of_none G0.out))).mono ?_; rintro e wa ⟨rfl, ga⟩; have B1 := Lib.hid (B0.out.kept ga); have G1 := Lib.hid (grown_trans' G0.out ga); clear ga; have qc := B1.out.at_ HSc.out; have qs := B1.out.at_ HSs.out)
      | (go_at_call 11; refine (long_at wa _ [c, s] 2 true rfl (by omega) HR.out).mono ?_; rintro e wb ⟨rfl, gb⟩; have B2 := Lib.hid (B1.out.kept gb); have G2 := Lib.hid (grown_trans' G1.out gb); clear gb qc qs))
    go_ret
    exact ⟨rfl, below_of_none G2.out⟩
  | false =>
    simp only [List.any_cons, List.any_nil, Bool.or_eq_false_iff, decide_eq_false_iff_not] at hR
    have HZc := Lib.hid (show c.data.toList.length ≤ 1000000 by rw [size_list]; omega)
    have HZs := Lib.hid (show s.data.toList.length ≤ 1000000 by rw [size_list]; omega)
    by_cases hm : 300 < nl
    · have hmi : (300 : Int) < (nl : Int) := by omega
      clear hM hk h hnl htc hR hm
      go_enter Tryd.func8, Tryd.ntmps8
      go_wp2_with (first
        | (go_at_call 10; refine (speaks_any _ (HM.out.below (below_of_none G0.out))).mono ?_; rintro e wa ⟨rfl, ga⟩; have B1 := Lib.hid (B0.out.kept ga); have G1 := Lib.hid (grown_trans' G0.out ga); clear ga; have qc := B1.out.at_ HSc.out; have qs := B1.out.at_ HSs.out)
        | (go_at_call 11; refine (long_at wa _ [c, s] 2 false rfl (by omega) HR.out).mono ?_; rintro e wb ⟨rfl, gb⟩; have B2 := Lib.hid (B1.out.kept gb); have G2 := Lib.hid (grown_trans' G1.out gb); clear gb qc qs))
      go_ret
      exact ⟨rfl, below_of_none G2.out⟩
    · have hmi : ¬ ((300 : Int) < (nl : Int)) := by omega
      rcases bool_cases (b := tOk c.data.toList s.data.toList st en fl) with ho | ho
      · have HO := Lib.hid ho
        obtain ⟨Y, hy⟩ : ∃ Y, bytesF (tFields c.data.toList s.data.toList k st.toNat en.toNat fl.toNat) = Y := ⟨_, rfl⟩
        have HY := Lib.hid hy
        obtain ⟨n, hn⟩ : ∃ n, Y.length = n := ⟨_, rfl⟩
        have HN := Lib.hid hn
        have hlo := tOk_len ho
        have hch := tFields_chk c.data.toList s.data.toList k st.toNat en.toNat fl.toNat (by omega) (by omega) hk
        have hnb : n ≤ 200000 := by rw [← hn, ← hy, bytesF_length]; exact tFields_tot _ _ _ _ _ _ (by omega) (by omega) hk
        have hnp : 0 < n := by
          rw [← hn, ← hy, bytesF_length]
          simp only [tot, tFields, List.map_cons, List.sum_cons]
          omega
        obtain ⟨m, hml, hmk⟩ := and_low kk 16 (by decide)
        have hmk' : bits .and .i64 kk 65535 = (m : Int) := hmk
        obtain ⟨j, hjl, hj⟩ : ∃ j : Nat, j < n ∧ (m : Int) % (n : Int) = (j : Int) := ⟨m % n, Nat.mod_lt _ hnp, (Int.natCast_emod _ _).symm⟩
        have HJN := Lib.hid (show (Y.take j).length = j by rw [List.length_take]; omega)
        have HJ1 := Lib.hid (show j ≤ 1000000 by omega)
        have HQ1 := Lib.hid (show tReads (Y.take j) = false by rw [← hy]; exact tReads_cut ho hk (by rw [hy, hn]; exact hjl))
        have HNP := Lib.hid hnp
        have HNB := Lib.hid hnb
        have HHI := Lib.hid hmi
        have hni : ¬ ((n : Int) = 0) := by omega
        clear hmk hml
        by_cases hl0 : nl = 0
        · obtain rfl : l = [] := List.eq_nil_of_length_eq_zero (by omega)
          have HQ2 := Lib.hid (show tReads Y = true by rw [← hy]; exact tReads_back ho hk)
          have HNB6 := Lib.hid (show n ≤ 1000000 by omega)
          have HNLB := Lib.hid (show (0 : Nat) ≤ 300 by omega)
          have TR1 := Lib.hid True.intro
          have HMV := Lib.hid (show tMade (tVals Y) = TC by rw [← hy, tVals, tVals_back ho hk, tMade_back ho hk, ba_of, ba_of, htc])
          obtain rfl := hl0
          have heq9 := HEQ9.out
          clear hM hk h hnl htc hR hm ho hy hn hlo hch hnb hnp
          go_enter Tryd.func8, Tryd.ntmps8
          go_wp2_with (first
            | (go_at_call 10; refine (speaks_any _ (HM.out.below (below_of_none G0.out))).mono ?_; rintro e wa ⟨rfl, ga⟩; have B1 := Lib.hid (B0.out.kept ga); have G1 := Lib.hid (grown_trans' G0.out ga); clear ga; have qc := B1.out.at_ HSc.out; have qs := B1.out.at_ HSs.out)
            | (go_at_call 11; refine (long_at wa _ [c, s] 2 false rfl (by omega) HR.out).mono ?_; rintro e wb ⟨rfl, gb⟩; have B2 := Lib.hid (B1.out.kept gb); have G2 := Lib.hid (grown_trans' G1.out gb); clear gb qc qs)
            | (have hx := TKL; clear hx; refine wpList_loadC (off := 0) (p := TC) aggTr rfl (.tmp 3) rfl B2.out (whole_take HL.out) (by have z2 := HL.out; omega) (by first | rfl | go_simp) ?_)
            | (go_at_call 12; rw [← HTC.out]; refine (twrite_any c s c.data.toList s.data.toList k st en fl _ (HM.out.below (below_of_none G2.out)) rfl rfl HKt.out HZc.out HZs.out).mono ?_; rw [HTC.out]; intro e ww h; obtain ⟨g, h⟩ := h; clear TKL; rw [if_pos HO.out] at h; obtain ⟨v, rfl, b⟩ := h; obtain ⟨A1, cap1, rfl, r⟩ := b; rw [HY.out] at r; rw [HY.out]; rw [HN.out]; have R3 := Lib.hid r; have hcap := r.1; rw [HN.out] at hcap; have hci : (n : Int) ≤ (cap1 : Int) := (by omega); have hjc : j ≤ cap1 := (by omega); have hji : (j : Int) ≤ (cap1 : Int) := (by omega); clear r; have B3 := Lib.hid (B2.out.kept g); have G3 := Lib.hid (grown_trans' G2.out g); clear g)
            | (go_at_call 14; have hx := TR1; clear hx; refine (tRead_any j cap1 A1 (Y.take j) _ (HM.out.below (below_of_none G3.out)) HJN.out HJ1.out (R3.out.head j)).mono ?_; intro e wr h; obtain ⟨g, h⟩ := h; rw [if_neg (by rw [HQ1.out]; simp)] at h; subst h; have GR := Lib.hid g; clear g TR1)
            | refine wpList_allocC zeroTr rfl rfl ?_
            | (refine wpList_storeC (off := 0) (p := tZero) aggTr.hi rfl (.tmp 9) (.tmp 42) rfl (.agg tZero.toArray) rfl tZero_one (CB.new wr 25 tZero) tZero_length (by rw [tZero_length]; omega) (by first | rfl | go_simp) rfl ?_; intro ws h g; have gs := none_new (grown_trans' GR.out (grown_alloc wr _ none)) g GR.out.size; have G4 := Lib.hid (grown_trans' G3.out gs); have R4 := Lib.hid (R3.out.row2 gs); have B4 := Lib.hid (B3.out.kept gs); clear h g gs)
            | (at_builtin; refine wpList_appB byteT rfl (.tmp 45) (.tmp 46) rfl (OwnB.new0 ws ws.heap.size _ (Nat.le_refl _)) (R4.out.alloc (Nat.le_refl _) _) rfl (by rw [HN.out]; rfl) (by rw [HN.out]; have := HNB.out; simp; omega) (by simp) ?_; intro v5 w5 o5 g5 _ _; rw [List.nil_append] at o5; have gg := none_new (grown_alloc ws (.cells #[] 5) none) g5 (Nat.le_refl _); have O5 := Lib.hid o5; have G5 := Lib.hid (grown_trans' G4.out gg); have B5 := Lib.hid (B4.out.kept gg); have S5 := Lib.hid gg.size; clear o5 g5 gg)
            | (at_builtin; have hx := S5; clear hx; refine wpList_appB byteT rfl (.tmp 47) (.tmp 48) rfl O5.out ((H9.out.kept G5.out (Nat.le_refl _)).more G5.out.size) rfl (by first | rfl | (rw [HNL.out]; rfl)) (by rw [HN.out]; have := HNB.out; have := HNLB.out; have := HNL.out; omega) S5.out ?_; intro v6 w6 o6 g6 _ _; rw [List.append_nil] at o6; have G6 := Lib.hid (grown_own6 G5.out g6 (fun x hx => by have h1 := (O5.out.lt x hx).1; have h2 := G4.out.size; omega)); have B6 := Lib.hid (B5.out.row6 g6 (fun x hx => by have h1 := (O5.out.lt x hx).1; have h2 := B4.out.lt; omega)); obtain ⟨A6, c6, rfl, r6, -⟩ := o6.shape; rw [HN.out]; have R6 := Lib.hid r6; clear o6 g6 r6)
            | (go_at_call 14; refine (tRead_any n c6 A6 Y _ (HM.out.below (below_of_none G6.out)) HN.out HNB6.out R6.out).mono ?_; intro e wr2 h; obtain ⟨g, h⟩ := h; rw [if_pos HQ2.out] at h; subst h; rw [HMV.out]; have GR2 := Lib.hid g; clear g)
            | (refine wpList_storeC (off := 0) (p := TC) aggTr.hi rfl (.tmp 11) (.tmp 51) rfl (.agg TC.toArray) rfl HON.out (CB.new wr2 25 tZero) HL.out (by have z1 := tZero_length; have z2 := HL.out; omega) (by first | rfl | go_simp) rfl ?_; intro ws2 h g; rw [over_all _ _ (by have z1 := tZero_length; have z2 := HL.out; omega)] at h; have gs := none_new (grown_trans' GR2.out (grown_alloc wr2 _ none)) g GR2.out.size; have G7 := Lib.hid (grown_trans' G6.out gs); have B7 := Lib.hid (B6.out.kept gs); have C7 := Lib.hid h; clear h g gs)
            | refine wpList_loadCg (off := 0) (p := TC) aggTr (by first | rfl | go_simp) (.tmp 11) rfl C7.out (whole_take HL.out) (by have z2 := HL.out; omega) (by first | rfl | go_simp) ?_
            | refine wpList_loadCg (off := 0) (p := TC) aggTr (by first | rfl | go_simp) (.tmp 3) rfl B7.out (whole_take HL.out) (by have z2 := HL.out; omega) (by first | rfl | go_simp) ?_)
          go_ret
          exact ⟨rfl, below_of_none G7.out⟩
        · have hlne : l ≠ [] := fun e => hl0 (by rw [← hnl, e]; rfl)
          have HQ2 := Lib.hid (show tReads (Y ++ l) = false by rw [← hy]; exact tReads_more ho hk hlne)
          have HNLB := Lib.hid (show nl ≤ 300 by omega)
          have hl0i : ¬ ((nl : Int) = 0) := by omega
          obtain ⟨Y6, hy6⟩ : ∃ Z, Y ++ l = Z := ⟨_, rfl⟩
          have HY6 := Lib.hid hy6
          rw [hy6] at HQ2
          obtain ⟨n6, hn6⟩ : ∃ n, Y6.length = n := ⟨_, rfl⟩
          have HN6 := Lib.hid hn6
          have HNB6 := Lib.hid (show n6 ≤ 1000000 by rw [← hn6, ← hy6, List.length_append, hn, hnl]; omega)
          have TR1 := Lib.hid True.intro
          clear hM hk h hnl htc hR hm ho hy hn hlo hch hnb hnp hy6 hn6 hlne
          go_enter Tryd.func8, Tryd.ntmps8
          go_wp2_with (first
            | (go_at_call 10; refine (speaks_any _ (HM.out.below (below_of_none G0.out))).mono ?_; rintro e wa ⟨rfl, ga⟩; have B1 := Lib.hid (B0.out.kept ga); have G1 := Lib.hid (grown_trans' G0.out ga); clear ga; have qc := B1.out.at_ HSc.out; have qs := B1.out.at_ HSs.out)
            | (go_at_call 11; refine (long_at wa _ [c, s] 2 false rfl (by omega) HR.out).mono ?_; rintro e wb ⟨rfl, gb⟩; have B2 := Lib.hid (B1.out.kept gb); have G2 := Lib.hid (grown_trans' G1.out gb); clear gb qc qs)
            | (have hx := TKL; clear hx; refine wpList_loadC (off := 0) (p := TC) aggTr rfl (.tmp 3) rfl B2.out (whole_take HL.out) (by have z2 := HL.out; omega) (by first | rfl | go_simp) ?_)
            | (go_at_call 12; rw [← HTC.out]; refine (twrite_any c s c.data.toList s.data.toList k st en fl _ (HM.out.below (below_of_none G2.out)) rfl rfl HKt.out HZc.out HZs.out).mono ?_; rw [HTC.out]; intro e ww h; obtain ⟨g, h⟩ := h; clear TKL; rw [if_pos HO.out] at h; obtain ⟨v, rfl, b⟩ := h; obtain ⟨A1, cap1, rfl, r⟩ := b; rw [HY.out] at r; rw [HY.out]; rw [HN.out]; have R3 := Lib.hid r; have hcap := r.1; rw [HN.out] at hcap; have hci : (n : Int) ≤ (cap1 : Int) := (by omega); have hjc : j ≤ cap1 := (by omega); have hji : (j : Int) ≤ (cap1 : Int) := (by omega); clear r; have B3 := Lib.hid (B2.out.kept g); have G3 := Lib.hid (grown_trans' G2.out g); clear g)
            | (go_at_call 14; have hx := TR1; clear hx; refine (tRead_any j cap1 A1 (Y.take j) _ (HM.out.below (below_of_none G3.out)) HJN.out HJ1.out (R3.out.head j)).mono ?_; intro e wr h; obtain ⟨g, h⟩ := h; rw [if_neg (by rw [HQ1.out]; simp)] at h; subst h; have GR := Lib.hid g; clear g TR1)
            | refine wpList_allocC zeroTr rfl rfl ?_
            | (refine wpList_storeC (off := 0) (p := tZero) aggTr.hi rfl (.tmp 9) (.tmp 42) rfl (.agg tZero.toArray) rfl tZero_one (CB.new wr 25 tZero) tZero_length (by rw [tZero_length]; omega) (by first | rfl | go_simp) rfl ?_; intro ws h g; have gs := none_new (grown_trans' GR.out (grown_alloc wr _ none)) g GR.out.size; have G4 := Lib.hid (grown_trans' G3.out gs); have R4 := Lib.hid (R3.out.row2 gs); have B4 := Lib.hid (B3.out.kept gs); clear h g gs)
            | (at_builtin; refine wpList_appB byteT rfl (.tmp 45) (.tmp 46) rfl (OwnB.new0 ws ws.heap.size _ (Nat.le_refl _)) (R4.out.alloc (Nat.le_refl _) _) rfl (by rw [HN.out]; rfl) (by rw [HN.out]; have := HNB.out; simp; omega) (by simp) ?_; intro v5 w5 o5 g5 _ _; rw [List.nil_append] at o5; have gg := none_new (grown_alloc ws (.cells #[] 5) none) g5 (Nat.le_refl _); have O5 := Lib.hid o5; have G5 := Lib.hid (grown_trans' G4.out gg); have B5 := Lib.hid (B4.out.kept gg); have S5 := Lib.hid gg.size; clear o5 g5 gg)
            | (at_builtin; have hx := S5; clear hx; refine wpList_appB byteT rfl (.tmp 47) (.tmp 48) rfl O5.out ((H9.out.kept G5.out (Nat.le_refl _)).more G5.out.size) rfl (by first | rfl | (rw [HNL.out]; rfl)) (by rw [HN.out]; have := HNB.out; have := HNLB.out; have := HNL.out; omega) S5.out ?_; intro v6 w6 o6 g6 _ _; rw [HY6.out] at o6; have G6 := Lib.hid (grown_own6 G5.out g6 (fun x hx => by have h1 := (O5.out.lt x hx).1; have h2 := G4.out.size; omega)); have B6 := Lib.hid (B5.out.row6 g6 (fun x hx => by have h1 := (O5.out.lt x hx).1; have h2 := B4.out.lt; omega)); obtain ⟨A6, c6, rfl, r6, -⟩ := o6.shape; rw [HN6.out]; have R6 := Lib.hid r6; clear o6 g6 r6)
            | (go_at_call 14; refine (tRead_any n6 c6 A6 Y6 _ (HM.out.below (below_of_none G6.out)) HN6.out HNB6.out R6.out).mono ?_; intro e wr2 h; obtain ⟨g, h⟩ := h; rw [if_neg (by rw [HQ2.out]; simp)] at h; subst h; have GR2 := Lib.hid g; clear g)
            | (refine wpList_storeC (off := 0) (p := tZero) aggTr.hi rfl (.tmp 11) (.tmp 51) rfl (.agg tZero.toArray) rfl tZero_one (CB.new wr2 25 tZero) tZero_length (by have z1 := tZero_length; omega) (by first | rfl | go_simp) rfl ?_; intro ws2 h g; rw [over_all _ _ (by have z1 := tZero_length; omega)] at h; have gs := none_new (grown_trans' GR2.out (grown_alloc wr2 _ none)) g GR2.out.size; have G7 := Lib.hid (grown_trans' G6.out gs); have B7 := Lib.hid (B6.out.kept gs); have C7 := Lib.hid h; clear h g gs))
          go_ret
          exact ⟨rfl, below_of_none G7.out⟩
      · have HO := Lib.hid ho
        clear hM hk h hnl htc hR hm ho
        go_enter Tryd.func8, Tryd.ntmps8
        go_wp2_with (first
          | (go_at_call 10; refine (speaks_any _ (HM.out.below (below_of_none G0.out))).mono ?_; rintro e wa ⟨rfl, ga⟩; have B1 := Lib.hid (B0.out.kept ga); have G1 := Lib.hid (grown_trans' G0.out ga); clear ga; have qc := B1.out.at_ HSc.out; have qs := B1.out.at_ HSs.out)
          | (go_at_call 11; refine (long_at wa _ [c, s] 2 false rfl (by omega) HR.out).mono ?_; rintro e wb ⟨rfl, gb⟩; have B2 := Lib.hid (B1.out.kept gb); have G2 := Lib.hid (grown_trans' G1.out gb); clear gb qc qs)
          | (have hx := TKL; clear hx; refine wpList_loadC (off := 0) (p := TC) aggTr rfl (.tmp 3) rfl B2.out (whole_take HL.out) (by have z2 := HL.out; omega) (by first | rfl | go_simp) ?_)
          | (go_at_call 12; rw [← HTC.out]; refine (twrite_any c s c.data.toList s.data.toList k st en fl _ (HM.out.below (below_of_none G2.out)) rfl rfl HKt.out HZc.out HZs.out).mono ?_; rw [HTC.out]; intro e ww h; obtain ⟨g, h⟩ := h; clear TKL; rw [if_neg (by rw [HO.out]; simp)] at h; subst h; have B3 := Lib.hid (B2.out.kept g); have G3 := Lib.hid (grown_trans' G2.out g); clear g))
        go_ret
        exact ⟨rfl, below_of_none G3.out⟩
theorem walk_TicketCuts (w : World) (hM : ML w) (c s : ByteArray) (k : List UInt8) (st en fl : Int) (hk : k.length = 16) (_ : (Lit.int .i64 st).wf = true) (_ : (Lit.int .i64 en).wf = true) (_ : (Lit.int .i64 fl).wf = true) (kk : Int) (_ : (Lit.int .i64 kk).wf = true) (A : Option Addr) (l : List UInt8) (cap : Nat) (h : RB w w.heap.size A l cap) :
    Calls Tryd.prog 8 #[.agg (tcells c s k st en fl).toArray, .int .i64 kk, .slice A l.length cap] w fun e w' => e = .returned (.bool true) ∧ Below w.heap.size w w' :=
  cuts_any w hM c s k st en fl hk kk A l cap h
end Go.Proofs.YtdgmkpnaopmegaaDoor
