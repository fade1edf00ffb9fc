/- The small walks of the document's ticket: names, times, rightness, numbers' fields, numbers, keys, RightAuth, values. -/
import Derived.Test.YtnaoagiphehcaaaDoorTkm
import Derived.Test.YtnaoagiphehcaaaDoorRpa
import Derived.Test.YtnaoagiphehcaaaDoorRJoF
namespace Go.Proofs.YtnaoagiphehcaaaDoor
open Go.RowKit

theorem refNamed_any (s : ByteArray) (l : List UInt8) (hl : s.data.toList = l) (w : World) (hs : l.length ≤ 10000) :
    Calls Tryd.prog 90 #[.string s] w fun e w' => e = .returned (.bool (parses l)) ∧ w.grownBy w' none := by
  have HL := Lib.hid hl
  have HS := Lib.hid hs
  cases hp : parses l with
  | true =>
    have HP := Lib.hid hp
    clear hl hs hp
    go_enter Tryd.func90, Tryd.ntmps90
    go_wp2_with (first
      | (go_at_call 106; refine (refParse_any s l HL.out _ HS.out).mono ?_; intro e w1 h1; rw [RefParsed, if_pos HP.out] at h1; obtain ⟨A, n, c, ls, r, rfl, -, -, -, -, -, hb⟩ := h1; have G1 := Lib.hid (none_of_below hb (Nat.le_refl _)); clear hb)
      | refine wpList_allocC zeroN_run rfl rfl ?_
      | (refine wpList_storeC (off := 0) (p := [.slice A n c, .string r]) aggN.hi rfl (.tmp 3) (.tmp 8) rfl _ rfl (nm_one _ _ _ _) (CB.new w1 152 zeroN) rfl (Nat.le_refl _) (by first | rfl | go_simp) rfl ?_; intro w4 h4 g4; have G4 := Lib.hid (none_new (grown_trans' G1.out (grown_alloc w1 _ none)) g4 G1.out.size); clear h4 g4))
    go_ret
    exact ⟨rfl, G4.out⟩
  | false =>
    have HP := Lib.hid hp
    clear hl hs hp
    go_enter Tryd.func90, Tryd.ntmps90
    go_wp2_with (first
      | (go_at_call 106; refine (refParse_any s l HL.out _ HS.out).mono ?_; intro e w1 h1; rw [RefParsed, if_neg (by rw [HP.out]; simp)] at h1; obtain ⟨rfl, hb⟩ := h1; have G1 := Lib.hid (none_of_below hb (Nat.le_refl _)); clear hb)
      | refine wpList_allocC zeroN_run rfl rfl ?_
      | (refine wpList_storeC (off := 0) (p := [.slice none 0 0, .string ⟨#[]⟩]) aggN.hi rfl (.tmp 3) (.tmp 8) rfl _ rfl (nm_one _ _ _ _) (CB.new w1 152 zeroN) rfl (Nat.le_refl _) (by first | rfl | go_simp) rfl ?_; intro w4 h4 g4; have G4 := Lib.hid (none_new (grown_trans' G1.out (grown_alloc w1 _ none)) g4 G1.out.size); clear h4 g4))
    go_ret
    exact ⟨rfl, G4.out⟩

theorem lasts_spec (s e f : Int) : (spanOk s e && flagsOk f) = (decide (0 ≤ s) && (decide (s ≤ e) && (decide (e ≤ 1099511627776) && (decide (0 ≤ f) && decide (f ≤ 3))))) := by
  rw [Bool.eq_iff_iff]
  simp only [spanOk, timeOk, flagsOk, Bool.and_eq_true, decide_eq_true_eq]
  omega
theorem lastsRef_any (s e f : Int) (w : World) : Calls Tryd.prog 96 #[.int .i64 s, .int .i64 e, .int .i64 f] w fun r w' => r = .returned (.bool (spanOk s e && flagsOk f)) ∧ w = w' := by
  rw [lasts_spec]
  by_cases h1 : 0 ≤ s
  · have d1 : decide (0 ≤ s) = true := decide_eq_true h1
    by_cases h2 : s ≤ e
    · have d2 : decide (s ≤ e) = true := decide_eq_true h2
      by_cases h3 : e ≤ 1099511627776
      · have d3 : decide (e ≤ 1099511627776) = true := decide_eq_true h3
        by_cases h4 : 0 ≤ f
        · have d4 : decide (0 ≤ f) = true := decide_eq_true h4
          by_cases h5 : f ≤ 3
          · have d5 : decide (f ≤ 3) = true := decide_eq_true h5
            rw [d1, d2, d3, d4, d5]
            go_enter Tryd.func96, Tryd.ntmps96
            go_wp2
            go_ret
            exact ⟨rfl, rfl⟩
          · have d5 : decide (f ≤ 3) = false := decide_eq_false h5
            rw [d1, d2, d3, d4, d5]
            go_enter Tryd.func96, Tryd.ntmps96
            go_wp2
            go_ret
            exact ⟨rfl, rfl⟩
        · have d4 : decide (0 ≤ f) = false := decide_eq_false h4
          rw [d1, d2, d3, d4]
          go_enter Tryd.func96, Tryd.ntmps96
          go_wp2
          go_ret
          exact ⟨rfl, rfl⟩
      · have d3 : decide (e ≤ 1099511627776) = false := decide_eq_false h3
        rw [d1, d2, d3]
        go_enter Tryd.func96, Tryd.ntmps96
        go_wp2
        go_ret
        exact ⟨rfl, rfl⟩
    · have d2 : decide (s ≤ e) = false := decide_eq_false h2
      rw [d1, d2]
      go_enter Tryd.func96, Tryd.ntmps96
      go_wp2
      go_ret
      exact ⟨rfl, rfl⟩
  · have d1 : decide (0 ≤ s) = false := decide_eq_false h1
    rw [d1]
    go_enter Tryd.func96, Tryd.ntmps96
    go_wp2
    go_ret
    exact ⟨rfl, rfl⟩

theorem refNumF_any (t : Int) (n : Nat) (w : World) (h1 : 1 ≤ t) (h2 : t ≤ 255) (hn : n < 18446744073709551616) :
    Calls Tryd.prog 58 #[.int .i64 t, .int .u64 n] w fun e w' => ∃ v, e = .returned v ∧ IsB w' v (fieldB (t, numB n)) ∧ w.grownBy w' none := by
  have H1 := Lib.hid h1
  have H2 := Lib.hid h2
  have HN := Lib.hid hn
  have HL := Lib.hid (numB_length n)
  clear h1 h2 hn
  go_enter Tryd.func58, Tryd.ntmps58
  go_wp2_with (first
    | (go_at_call 79; refine (refNum_any n _ HN.out).mono ?_; rintro e w1 ⟨v, rfl, o, b⟩; obtain ⟨A1, c1, rfl, r, -⟩ := o.shape; have R1 := Lib.hid r; have G1 := Lib.hid (none_of_below b (Nat.le_refl _)); clear o b r)
    | (go_at_call 57; refine (field_any t A1 (numB n) c1 _ H1.out H2.out (by have := HL.out; omega) R1.out).mono ?_; rintro e w2 ⟨v, rfl, o, b⟩; have O2 := Lib.hid o.isB; have G2 := Lib.hid (grown_trans' G1.out (none_of_below b (Nat.le_refl _))); clear o b))
  go_ret
  exact ⟨_, rfl, O2.out, G2.out⟩

/-- A number that is to be a time: one above 2^40 is below 0. -/
def timeN (n : Nat) : Int := if n > 1099511627776 then -1 else (n : Int)
theorem refNumber_any (A : Option Addr) (l : List UInt8) (n cap B : Nat) (w : World) (hn : l.length = n) (h : RB w B A l cap) :
    Calls Tryd.prog 65 #[.slice A n cap] w fun e w' => e = .returned (.tuple #[.int .u64 (readOf l).1, .int .i64 (timeN (readOf l).1), .bool (readOf l).2]) ∧ w = w' := by
  subst hn
  have H := Lib.hid h
  obtain ⟨N, hN⟩ : ∃ N, (readOf l).1 = N := ⟨_, rfl⟩
  obtain ⟨b, hb⟩ : ∃ b, (readOf l).2 = b := ⟨_, rfl⟩
  have HNN := Lib.hid hN
  have HBB := Lib.hid hb
  rw [hN, hb]
  clear h hN hb
  by_cases h1 : N > 1099511627776
  · have hi : (1099511627776 : Int) < (N : Int) := by omega
    have HT := Lib.hid (show timeN N = -1 by rw [timeN, if_pos h1])
    clear h1
    go_enter Tryd.func65, Tryd.ntmps65
    go_wp2_with (go_at_call 86; refine (refRead_any A l cap B _ H.out).mono ?_; rw [HNN.out, HBB.out]; rintro e w1 ⟨rfl, rfl⟩)
    go_ret3
    exact ⟨by rw [HT.out]; rfl, rfl⟩
  · have hi : ¬ ((1099511627776 : Int) < (N : Int)) := by omega
    have HT := Lib.hid (show timeN N = (N : Int) by rw [timeN, if_neg h1])
    have hw : IntKind.i64.wrap (N : Int) = (N : Int) := by rw [IntKind.wrap_i64]; omega
    clear h1
    go_enter Tryd.func65, Tryd.ntmps65
    go_wp2_with (go_at_call 86; refine (refRead_any A l cap B _ H.out).mono ?_; rw [HNN.out, HBB.out]; rintro e w1 ⟨rfl, rfl⟩)
    go_ret3
    exact ⟨by rw [HT.out]; rfl, rfl⟩

set_option maxRecDepth 10000 in
set_option maxHeartbeats 1000000 in
theorem refKeyT_any (n cap : Nat) (A : Option Addr) (l : List UInt8) (w : World) (hn : l.length = n) (hb : n ≤ 1000000) (h : RB w w.heap.size A l cap) :
    Calls Tryd.prog 64 #[.slice A n cap] w fun e w' => e = .returned (.tuple #[.agg (bcells (keyB l)).toArray, .bool (decide (n = 16))]) ∧ w.grownBy w' none := by
  have HN := Lib.hid hn
  have HB := Lib.hid hb
  have H9 := Lib.hid h
  obtain ⟨K, hK⟩ : ∃ K, keyB l = K := ⟨_, rfl⟩
  have HKL := Lib.hid (show K.length = 16 by rw [← hK, keyB_length])
  have HAT := Lib.hid (show ∀ (k : Nat) (u : UInt8), k < 16 → l[k]? = some u → K[k]? = some u from fun k u hk hu => by
    have hkl : k < l.length := (List.getElem?_eq_some_iff.1 hu).1
    rw [← hK, keyB, List.getElem?_append_left (by rw [List.length_take]; omega), List.getElem?_take_of_lt hk]
    exact hu)
  have HSET := Lib.hid (show ∀ (k : Nat) (u : UInt8), K[k]? = some u → (mix K (zeros 16) k).set k u = mix K (zeros 16) (k + 1) from fun k u hu => mix_set _ _ (by rw [HKL.out, zeros_length]) k u hu)
  have HMX := Lib.hid (show ∀ k, (mix K (zeros 16) k).length = 16 from fun k => by rw [mix_length _ _ _ (by rw [HKL.out, zeros_length]), zeros_length])
  have HEND := Lib.hid (show ∀ k, k ≤ 16 → k ≤ n → (k = 16 ∨ k = n) → mix K (zeros 16) k = K from fun k h1 h2 h3 => by
    rcases h3 with rfl | rfl
    · exact mix_all _ _ (by rw [zeros_length]; exact Nat.le_refl _) (by rw [HKL.out]; exact Nat.le_refl _)
    · rw [mix, ← hK, keyB, hn]
      rw [List.take_append_of_le_length (by rw [List.length_take]; omega), List.take_of_length_le (by rw [List.length_take]; omega)]
      congr 1
      rw [zeros, zeros, List.drop_replicate])
  obtain ⟨DB, hdb⟩ : ∃ b, decide (n = 16) = b := ⟨_, rfl⟩
  have HDB := Lib.hid hdb
  rw [hK, hdb]
  have HR := Lib.hid ((CB.new w 23 (bcells (zeros 16))).alloc (.cells (bcells (zeros 16)).toArray 23))
  have HC := Lib.hid (CB.new1 w (.cells (bcells (zeros 16)).toArray 23) 23 (bcells (zeros 16)))
  have HG := Lib.hid (grown_trans' (grown_alloc w (.cells (bcells (zeros 16)).toArray 23) none) (grown_alloc _ (.cells (bcells (zeros 16)).toArray 23) none))
  clear hn hb h hK hdb
  go_enter Tryd.func64, Tryd.ntmps64
  go_wp2_with (first
    | refine wpList_allocC zeroK rfl rfl ?_
    | (refine wpList_storeC (off := 0) (p := bcells (zeros 16)) aggK.hi rfl (.tmp 4) (.tmp 6) rfl _ (by first | rfl | kernel_rfl) (bcells_one _) HC.out (by rw [bcells_length, zeros_length]) (by rw [bcells_length, zeros_length]; omega) (by first | rfl | go_simp) rfl ?_; intro w4 h4 g4; rw [over_all _ _ (Nat.le_refl _)] at h4; have C4 := Lib.hid h4; have R4 := Lib.hid (HR.out.grown g4 (by omega)); have G4 := Lib.hid (none_new HG.out g4 (by omega)); clear h4 g4))
  go_loopw [5] (fun i wr => ∃ k : Nat, i = .int .i64 k ∧ k ≤ 16 ∧ k ≤ n ∧ CB wr w.heap.size 23 (bcells (zeros 16)) ∧ CB wr (w.heap.size + 1) 23 (bcells (mix K (zeros 16) k)) ∧ w.grownBy wr none) (fun i _ => 16 - (intOf i).toNat)
  case atStart => exact ⟨0, rfl, by omega, by omega, R4.out, by rw [mix_zero]; exact C4.out, G4.out⟩
  case round =>
    obtain ⟨k, rfl, hk, hkn, hr, hc, hg⟩ := hrel
    have HRr := Lib.hid hr
    have HCr := Lib.hid hc
    have HGr := Lib.hid hg
    by_cases hlt : k < 16 ∧ k < n
    · obtain ⟨u, hu⟩ : ∃ u, l[k]? = some u := ⟨_, List.getElem?_eq_getElem (by rw [HN.out]; exact hlt.2)⟩
      obtain ⟨b, off, hA, hbb, hcell⟩ := H9.out.open_ (by rw [HN.out]; omega)
      subst hA
      have cu : wr.cell? ⟨b, off + k, none⟩ = some (.int .u8 (u.toNat : Int)) := by
        rw [(below_of_none hg).cell (p := ⟨b, off + k, none⟩) hbb, hcell k (by rw [HN.out]; exact hlt.2), (List.getElem?_eq_some_iff.1 hu).2]
      have HSE := Lib.hid (HSET.out k u (HAT.out k u hlt.1 hu))
      have HXL := Lib.hid (show k < (bcells (mix K (zeros 16) k)).length by rw [bcells_length, HMX.out]; omega)
      have hki : (k : Int) < 16 := by omega
      have hkj : (k : Int) < (n : Int) := by omega
      have HLT := Lib.hid hlt
      clear hr hc hg hk hkn hlt hu hcell hbb
      go_wp2_with (refine wpList_setC sz8 rfl (.tmp 22) (.tmp 21) rfl .u8 (u.toNat : Int) HCr.out HXL.out rfl rfl ?_; intro w6 h6 g6; rw [bcells_set _ _ _ _ rfl, HSE.out] at h6; have C6 := Lib.hid h6; have R6 := Lib.hid (HRr.out.grown g6 (by omega)); have G6 := Lib.hid (none_new HGr.out g6 (by omega)); clear h6 g6)
      go_roundw
      case rel => exact ⟨k + 1, by go_num, by have := HLT.out.1; omega, by have := HLT.out.2; omega, R6.out, C6.out, G6.out⟩
      case measure => have := HLT.out; first | (simp [intOf]; done) | (simp [intOf]; omega)
    · have HE := Lib.hid (HEND.out k hk hkn (by omega))
      rw [HE.out] at HCr
      clear hr hc hg
      by_cases h16 : k = 16
      · subst h16
        rw [show ((16 : Nat) : Int) = 16 from rfl]
        have hkn' : (16 : Int) ≤ (n : Int) := by omega
        by_cases hn16 : n = 16
        · have e1 : ((n : Int) == 16) = true := by rw [beq_iff_eq]; omega
          have HD := Lib.hid (show DB = true by rw [← HDB.out, decide_eq_true hn16])
          clear hk hkn hlt hn16
          go_wp2_with (first
            | refine wpList_loadC (off := 0) (p := bcells K) aggK rfl (.tmp 4) rfl HCr.out (by rw [List.drop_zero]; exact List.take_of_length_le (by rw [bcells_length, HKL.out]; exact Nat.le_refl _)) (by rw [bcells_length, HKL.out]; omega) (by first | rfl | go_simp) ?_
            | (refine wpList_storeC (off := 0) (p := bcells K) aggK.hi rfl (.tmp 2) (.tmp 23) rfl (.agg (bcells K).toArray) rfl (bcells_one _) HRr.out (by rw [bcells_length, HKL.out]) (by rw [bcells_length, zeros_length]; omega) (by first | rfl | go_simp) rfl ?_; intro w8 h8 g8; rw [over_all _ _ (by rw [bcells_length, bcells_length, HKL.out, zeros_length]; exact Nat.le_refl _)] at h8))
          exact bodyPost_ret (results_C2 rfl _ aggK h8 (by rw [bcells_length, HKL.out]) rfl rfl) rfl ⟨by rw [HD.out]; rfl, none_new HGr.out g8 (Nat.le_refl _)⟩
        · have e1 : ((n : Int) == 16) = false := by rw [beq_eq_false_iff_ne]; omega
          have HD := Lib.hid (show DB = false by rw [← HDB.out, decide_eq_false hn16])
          clear hk hkn hlt hn16
          go_wp2_with (first
            | refine wpList_loadC (off := 0) (p := bcells K) aggK rfl (.tmp 4) rfl HCr.out (by rw [List.drop_zero]; exact List.take_of_length_le (by rw [bcells_length, HKL.out]; exact Nat.le_refl _)) (by rw [bcells_length, HKL.out]; omega) (by first | rfl | go_simp) ?_
            | (refine wpList_storeC (off := 0) (p := bcells K) aggK.hi rfl (.tmp 2) (.tmp 23) rfl (.agg (bcells K).toArray) rfl (bcells_one _) HRr.out (by rw [bcells_length, HKL.out]) (by rw [bcells_length, zeros_length]; omega) (by first | rfl | go_simp) rfl ?_; intro w8 h8 g8; rw [over_all _ _ (by rw [bcells_length, bcells_length, HKL.out, zeros_length]; exact Nat.le_refl _)] at h8))
          exact bodyPost_ret (results_C2 rfl _ aggK h8 (by rw [bcells_length, HKL.out]) rfl rfl) rfl ⟨by rw [HD.out]; rfl, none_new HGr.out g8 (Nat.le_refl _)⟩
      · obtain rfl : k = n := by omega
        have hki : (k : Int) < 16 := by omega
        have e1 : ((k : Int) == 16) = false := by rw [beq_eq_false_iff_ne]; omega
        have HD := Lib.hid (show DB = false by rw [← HDB.out, decide_eq_false h16])
        clear hk hkn hlt h16
        go_wp2_with (first
          | refine wpList_loadC (off := 0) (p := bcells K) aggK rfl (.tmp 4) rfl HCr.out (by rw [List.drop_zero]; exact List.take_of_length_le (by rw [bcells_length, HKL.out]; exact Nat.le_refl _)) (by rw [bcells_length, HKL.out]; omega) (by first | rfl | go_simp) ?_
          | (refine wpList_storeC (off := 0) (p := bcells K) aggK.hi rfl (.tmp 2) (.tmp 23) rfl (.agg (bcells K).toArray) rfl (bcells_one _) HRr.out (by rw [bcells_length, HKL.out]) (by rw [bcells_length, zeros_length]; omega) (by first | rfl | go_simp) rfl ?_; intro w8 h8 g8; rw [over_all _ _ (by rw [bcells_length, bcells_length, HKL.out, zeros_length]; exact Nat.le_refl _)] at h8))
        exact bodyPost_ret (results_C2 rfl _ aggK h8 (by rw [bcells_length, HKL.out]) rfl rfl) rfl ⟨by rw [HD.out]; rfl, none_new HGr.out g8 (Nat.le_refl _)⟩

theorem aOk_spec (lc : List UInt8) (ti : Int) : aOk lc ti = (parses lc && (decide (0 ≤ ti) && decide (ti ≤ 1099511627776))) := rfl
set_option maxHeartbeats 1000000 in
theorem refRightA_any (c : ByteArray) (lc k : List UInt8) (ti : Int) (no : Int) (w : World) (hc : c.data.toList = lc) (hk : k.length = 16) (hl : lc.length ≤ 10000) :
    Calls Tryd.prog 68 #[.agg (acells c k ti no).toArray] w fun e w' => e = .returned (.bool (aOk lc ti)) ∧ w.grownBy w' none := by
  have HC := Lib.hid hc
  have HL := Lib.hid hl
  have B0 := Lib.hid (CB.new w 41 (acells c k ti no))
  have G0 := Lib.hid (grown_alloc w (.cells (acells c k ti no).toArray 41) none)
  have q0 := B0.out.at_ (acells_c c k ti no hk)
  have HTI := Lib.hid (acells_ti c k ti no hk)
  rw [aOk_spec]
  cases h1 : parses lc with
  | false =>
    have H1 := Lib.hid h1
    rw [Bool.false_and]
    clear hc hk hl h1
    go_enter Tryd.func68, Tryd.ntmps68
    go_wp2_with (go_at_call 90; refine (refNamed_any c lc HC.out _ HL.out).mono ?_; rintro e w1 ⟨rfl, g1⟩; rw [H1.out]; have G1 := Lib.hid (grown_trans' G0.out g1); clear g1)
    go_ret
    exact ⟨rfl, G1.out⟩
  | true =>
    have H1 := Lib.hid h1
    rw [Bool.true_and]
    by_cases h2 : 0 ≤ ti
    · have d2 : decide (0 ≤ ti) = true := decide_eq_true h2
      by_cases h3 : ti ≤ 1099511627776
      · have d3 : decide (ti ≤ 1099511627776) = true := decide_eq_true h3
        rw [d2, d3]
        clear hc hk hl h1
        go_enter Tryd.func68, Tryd.ntmps68
        go_wp2_with (go_at_call 90; refine (refNamed_any c lc HC.out _ HL.out).mono ?_; rintro e w1 ⟨rfl, g1⟩; rw [H1.out]; have G1 := Lib.hid (grown_trans' G0.out g1); have q1 := (B0.out.kept g1).at_ HTI.out; clear g1)
        go_ret
        exact ⟨rfl, G1.out⟩
      · have d3 : decide (ti ≤ 1099511627776) = false := decide_eq_false h3
        rw [d2, d3]
        clear hc hk hl h1
        go_enter Tryd.func68, Tryd.ntmps68
        go_wp2_with (go_at_call 90; refine (refNamed_any c lc HC.out _ HL.out).mono ?_; rintro e w1 ⟨rfl, g1⟩; rw [H1.out]; have G1 := Lib.hid (grown_trans' G0.out g1); have q1 := (B0.out.kept g1).at_ HTI.out; clear g1)
        go_ret
        exact ⟨rfl, G1.out⟩
    · have d2 : decide (0 ≤ ti) = false := decide_eq_false h2
      rw [d2]
      clear hc hk hl h1
      go_enter Tryd.func68, Tryd.ntmps68
      go_wp2_with (go_at_call 90; refine (refNamed_any c lc HC.out _ HL.out).mono ?_; rintro e w1 ⟨rfl, g1⟩; rw [H1.out]; have G1 := Lib.hid (grown_trans' G0.out g1); have q1 := (B0.out.kept g1).at_ HTI.out; clear g1)
      go_ret
      exact ⟨rfl, G1.out⟩

/-- The tags that a ticket asks for. -/
def tagsOf (first count : Nat) : List Int := (List.range count).map fun i => ((first + i : Nat) : Int)
theorem tagsOf_length (a b : Nat) : (tagsOf a b).length = b := by simp [tagsOf]
theorem tagsOf_succ (a k : Nat) : tagsOf a (k + 1) = tagsOf a k ++ [((a + k : Nat) : Int)] := by simp [tagsOf, List.range_succ]

theorem intInfo : (Tryd.prog.info? 3).map (fun i => (i.zero, i.size, i.bytes)) = some (some (.int .i64 0), 1, 8) := by kernel_rfl
theorem row_shape {w : World} {base : Nat} {e : TypeId} {v : Value} {n : Nat} {cs : List Value} (h : w.ownsRow base e 1 v n cs) : ∃ A c, v = .slice A n c := by
  rcases h.2 with ⟨hv, hl⟩ | ⟨g, cap', cur, hv, _⟩
  · exact ⟨_, _, by rw [hv, hl]⟩
  · exact ⟨_, _, hv⟩

section
variable {P : Program} {ops : Array Oper} {Q : Exit → Act → World → Prop} {rest : List Oper} {o : Oper} {a : Act} {w : World}
theorem wpList_appI {t e : TypeId} (ht : P.underlying t = some (.slice e)) (hinf : (P.info? e).map (fun i => (i.zero, i.size, i.bytes)) = some (some (.int .i64 0), 1, 8)) (hgd : o.guard = none) (s x : Operand)
    (ho : o.op = .call { callee := .builtin .append, args := #[s, x], argTypes := #[t, t] })
    {base : Nat} {v : Value} {l : List Int} (hown : w.ownsRow base e 1 v l.length (icells l)) {z : Int} {ad : Addr} {c : Nat} (hc1 : 1 ≤ c) (hcm : c ≤ maxLen) (hc : w.cell? ad = some (.int .i64 z)) (hb : ad.block < w.heap.size)
    (hs : a.eval s = v) (hx : a.eval x = .slice (some ad) 1 c) (hlen : l.length + 1 ≤ 1000000000) (hbase : base ≤ w.heap.size)
    (h : ∀ v' w', w'.ownsRow base e 1 v' (l ++ [z]).length (icells (l ++ [z])) → w.grownBy w' v.ownBlock → wpList P ops Q rest (a.put o.dst v') w') : wpList P ops Q (o :: rest) a w := by
  refine wpList_plain hgd fun K hK => ?_
  have hr : RI w w.heap.size (some ad) [z] c := ⟨hc1, hcm, .inr ⟨ad, rfl, fun k u hu => by
    match k, hu with
    | 0, hu =>
      injection hu with hu
      subst hu
      have hs : ad.add 0 = ad := by simp [Addr.add]
      rw [hs]
      exact ⟨hb, hc⟩
    | k + 1, hu => simp at hu⟩⟩
  obtain ⟨v', w', hrun, h2, h3⟩ := run_appI ht hinf o.type hown hr hlen hbase
  unfold Oper.wp execOp
  simp only [List.length_singleton] at hrun
  simp only [ho, resolve, invoke, builtin, Sem.run_bind, Sem.run_pure, Result.andThen_ok, List.map_toArray, List.map_cons, List.map_nil, hs, hx, hrun]
  exact hK _ _ (h v' w' h2 h3)
end

set_option maxHeartbeats 1000000 in
theorem refVals_any (A : Option Addr) (l : List UInt8) (cap n : Nat) (first count : Nat) (w : World) (hn : l.length = n) (h : RB w w.heap.size A l cap) (hl : n ≤ 1000000) (hf : first ≤ 1000) (hc : count ≤ 1000) :
    Calls Tryd.prog 63 #[.slice A n cap, .int .i64 first, .int .i64 count] w fun e w' => ∃ v, e = .returned (.tuple #[v, .bool ((valuesOf l (tagsOf first count)).2 == 0)]) ∧ IsS w' v (valuesOf l (tagsOf first count)).1 ∧ Below w.heap.size w w' := by
  have H := Lib.hid h
  have HN := Lib.hid hn
  have HL := Lib.hid hl
  have HF := Lib.hid hf
  have HC := Lib.hid hc
  obtain ⟨vs, e0, hv⟩ : ∃ vs e0, valuesOf l (tagsOf first count) = (vs, e0) := ⟨_, _, rfl⟩
  have HV := Lib.hid hv
  rw [hv]
  clear h hn hl hf hc hv
  go_enter Tryd.func63, Tryd.ntmps63
  go_wp2
  go_loopw [8, 9] (fun v i wr => ∃ k : Nat, i = .int .i64 k ∧ k ≤ count ∧ wr.ownsRow w.heap.size 3 1 v (tagsOf first k).length (icells (tagsOf first k)) ∧ Below w.heap.size w wr) (fun _ i _ => count - (intOf i).toNat)
  case atStart => exact ⟨0, rfl, Nat.zero_le _, ⟨rfl, .inr ⟨w.heap.size, 0, #[], rfl, Nat.le_refl _, heap_alloc_new w _, Nat.le_refl _, by simp [maxLen], rfl, rfl⟩⟩, (Below.refl _ _).alloc (Nat.le_refl _) _⟩
  case round =>
    obtain ⟨k, rfl, hk, hown, hbel⟩ := hrel
    have hbs := hbel.size
    have HOWN := Lib.hid hown
    have HBEL := Lib.hid hbel
    clear hown hbel
    by_cases hlt : k < count
    · have hki : (k : Int) < (count : Int) := by omega
      have hf := HF.out
      have hc := HC.out
      go_wp2_with (at_builtin; refine wpList_appI (z := ((first + k : Nat) : Int)) Tryd.underlying98 intInfo rfl (.tmp 18) (.tmp 22) rfl (base := w.heap.size) (World.ownsRow.alloc HOWN.out _) (by omega) (by simp [maxLen]) (cell_of_row _ _ 0 _ _ _ (heap_alloc_new _ _)) (by simp) rfl rfl ?ga ?gb ?_; rotate_left 2; intro v2 w2 hown2 hg2; have hn2 := World.ownsRow.lt HOWN.out)
      go_roundw
      case rel =>
        have hB : Below w.heap.size w w2 := Below.grown (HBEL.out.alloc hbs _) hg2 (by simp; omega) (fun q hq => (hn2 q hq).1)
        exact ⟨k + 1, by go_num, by omega, by rw [tagsOf_succ]; exact hown2, hB⟩
      case measure => first | (simp [intOf]; done) | (simp [intOf]; omega)
      case ga => rw [tagsOf_length]; omega
      case gb => simp; omega
    · obtain rfl : k = count := by omega
      obtain ⟨T, tc, hvv⟩ := row_shape HOWN.out
      subst hvv
      have HRI := Lib.hid (RI.of_own HOWN.out)
      have HR := Lib.hid (H.out.below HBEL.out |>.more hbs)
      clear hk hlt
      go_wp2_with (go_at_call 99; refine (refValues_any A l cap n T (tagsOf first k) tc _ _ HN.out rfl HR.out HRI.out HL.out).mono ?_; rintro e w1 ⟨v1, rfl, hs1, hb1⟩; rw [HV.out] at hs1 ⊢; have HS1 := Lib.hid hs1; have HB1 := Lib.hid hb1; clear hs1 hb1)
      go_ret2
      exact ⟨_, rfl, HS1.out, HBEL.out.trans (HB1.out.mono hbs)⟩
end Go.Proofs.YtnaoagiphehcaaaDoor
