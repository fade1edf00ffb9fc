/- The walks of ticket's read at its three types, and of Read, ReadAuth and ReadGrant. -/
import Derived.Test.YthgejidimnbplaaGreatDoorTkr
namespace Go.Proofs.YthgejidimnbplaaGreatDoor
open Go.RowKit

/-- What the ones that read answer. -/
def Rd (w : World) (ok : Bool) (cs zs : List Value) (e : Ending) (w' : World) : Prop :=
  w.grownBy w' none ∧ if ok = true then e = .returned (.tuple #[.agg cs.toArray, .int .i64 0]) else e = .returned (.tuple #[.agg zs.toArray, .int .i64 21])
theorem Rd.no {w w' : World} {cs zs : List Value} {e : Ending} {ok : Bool} (ho : ok = false) (hg : w.grownBy w' none) (h : e = .returned (.tuple #[.agg zs.toArray, .int .i64 21])) : Rd w ok cs zs e w' := ⟨hg, by rw [if_neg (by rw [ho]; simp)]; exact h⟩
theorem Rd.yes {w w' : World} {cs zs : List Value} {e : Ending} {ok : Bool} (ho : ok = true) (hg : w.grownBy w' none) (h : e = .returned (.tuple #[.agg cs.toArray, .int .i64 0])) : Rd w ok cs zs e w' := ⟨hg, by rw [if_pos ho]; exact h⟩
theorem readOf_lt (l : List UInt8) : (readOf l).1 < 18446744073709551616 := by
  unfold readOf
  split
  · rename_i h
    have h1 := foldl_lt l 0 0 (by omega)
    have h2 : 256 ^ (0 + l.length) ≤ 256 ^ 8 := Nat.pow_le_pow_right (by omega) (by omega)
    have h3 : (256 : Nat) ^ 8 = 18446744073709551616 := by decide
    simp only [numOf]
    omega
  · simp
theorem getD_le {vs : List (List UInt8)} {n : Nat} (h : ∀ v ∈ vs, v.length ≤ n) (i : Nat) : (vs.getD i []).length ≤ n := by
  rw [List.getD_eq_getElem?_getD]
  cases hv : vs[i]? with
  | none => simp
  | some v => simpa using h v (List.mem_of_getElem? hv)
theorem whole_take {cs : List Value} {n : Nat} (h : cs.length = n) : (cs.drop 0).take n = cs := by rw [List.drop_zero]; exact List.take_of_length_le (by omega)

/-! Ticket. -/
def tOkV (vs : List (List UInt8)) : Bool := tOk (vs.getD 0 []) (vs.getD 1 []) (i64w (readOf (vs.getD 3 [])).1) (i64w (readOf (vs.getD 4 [])).1) (i64w (readOf (vs.getD 5 [])).1)
def tBytesV (vs : List (List UInt8)) : List UInt8 := bytesF (tFields (vs.getD 0 []) (vs.getD 1 []) (keyB (vs.getD 2 [])) (i64w (readOf (vs.getD 3 [])).1).toNat (i64w (readOf (vs.getD 4 [])).1).toNat (i64w (readOf (vs.getD 5 [])).1).toNat)
def tVals (l : List UInt8) : List (List UInt8) := (valuesOf l [1, 2, 3, 4, 5, 6]).1
/-- Are bytes such a thing's? -/
def tReads (l : List UInt8) : Bool := decide ((valuesOf l [1, 2, 3, 4, 5, 6]).2 = 0) && (tOkV (tVals l) && decide (tBytesV (tVals l) = l))
theorem tmadeW (vs : List (List UInt8)) (w : World) (hM : ML w) (hle : ∀ v ∈ vs, v.length ≤ 1000000) :
    Calls Tryz.prog 12 #[.agg (tMade vs).toArray] w fun e w' => Wrote w (tOkV vs) (tBytesV vs) e w' :=
  twrite_any (ba (vs.getD 0 [])) (ba (vs.getD 1 [])) (vs.getD 0 []) (vs.getD 1 []) (keyB (vs.getD 2 [])) (i64w (readOf (vs.getD 3 [])).1) (i64w (readOf (vs.getD 4 [])).1) (i64w (readOf (vs.getD 5 [])).1) w hM rfl rfl (keyB_length _) (getD_le hle 0) (getD_le hle 1)
theorem tMade_one (vs : List (List UInt8)) : ∀ u ∈ tMade vs, u.oneCell' = true := tcellsr_one _ _ _ _ _ _
theorem tZero_one : ∀ u ∈ tZero, u.oneCell' = true := tcellsr_one _ _ _ _ _ _

set_option maxRecDepth 10000 in
set_option maxHeartbeats 2000000 in
theorem tread_any (n cap : Nat) (A : Option Addr) (l : List UInt8) (TA : Option Addr) (tc : Nat) (w : World) (hM : ML w) (hn : l.length = n) (hb : n ≤ 1000000) (h : RB w w.heap.size A l cap) (hT : RI w w.heap.size TA [1, 2, 3, 4, 5, 6] tc) :
    Calls Tryz.prog 31 #[.slice A n cap, .slice TA 6 tc, .func (.func 12) #[] #[], .func (.func 32) #[] #[]] w fun e w' => Rd w (tReads l) (tMade (tVals l)) tZero e w' := by
  have HM := Lib.hid hM
  have HN := Lib.hid hn
  have HB := Lib.hid hb
  have R9 := Lib.hid h
  have B0 := Lib.hid ((CB.new w 25 tZero).alloc (.cells tZero.toArray 25))
  have B1 := Lib.hid (CB.new1 w (.cells tZero.toArray 25) 25 tZero)
  have G0 := Lib.hid (grown_trans' (grown_alloc w (.cells tZero.toArray 25) none) (grown_alloc _ (.cells tZero.toArray 25) none))
  have R0 := Lib.hid ((h.kept G0.out (Nat.le_refl _)).more G0.out.size)
  have I0 := Lib.hid ((hT.kept G0.out (Nat.le_refl _)).more G0.out.size)
  obtain ⟨E, hE⟩ : ∃ E, (valuesOf l [1, 2, 3, 4, 5, 6]).2 = E := ⟨_, rfl⟩
  have HE := Lib.hid hE
  by_cases h0 : E = 0
  · subst h0
    obtain ⟨vs, hvs⟩ : ∃ vs, tVals l = vs := ⟨_, rfl⟩
    have HVS := Lib.hid (show (valuesOf l [1, 2, 3, 4, 5, 6]).1 = vs from hvs)
    have HVL := Lib.hid (show vs.length = 6 by rw [← HVS.out]; exact valuesOf_length hE)
    have HLE := Lib.hid (show ∀ v ∈ vs, v.length ≤ 1000000 from fun v hv => by rw [← HVS.out] at hv; have := valuesOf_le hv; omega)
    obtain ⟨MADE, hmd⟩ : ∃ M, tMade vs = M := ⟨_, rfl⟩
    have HMD := Lib.hid hmd
    have HML := Lib.hid (show MADE.length = 21 by rw [← hmd]; exact tMade_length vs)
    have HMO := Lib.hid (show ∀ u ∈ MADE, u.oneCell' = true by rw [← hmd]; exact tMade_one vs)
    rw [hvs, hmd]
    cases ho : tOkV vs with
    | false =>
      have HOK := Lib.hid ho
      have HRD := Lib.hid (show tReads l = false by rw [tReads, hvs, ho, Bool.false_and, Bool.and_false])
      clear hM hn hb h hT hE hvs hmd ho
      go_enter Tryz.func31, Tryz.ntmps31
      go_wp2_with (first
        | refine wpList_allocC zeroTr rfl rfl ?_
        | (go_at_call 45; refine (values_any A l cap n TA [1, 2, 3, 4, 5, 6] tc 6 _ HN.out rfl R0.out I0.out HB.out).mono ?_; rintro e wv ⟨v, rfl, hs, hb⟩; rw [HE.out]; have gv := none_of_below hb (Nat.le_refl _); have GV := Lib.hid (grown_trans' G0.out gv); have B0v := Lib.hid (B0.out.kept gv); have B1v := Lib.hid (B1.out.kept gv); clear hb gv; obtain ⟨V, cV, rfl, hrs⟩ := hs; rw [HVS.out] at hrs; rw [HVS.out]; rw [HVL.out]; have HS := Lib.hid hrs; clear hrs)
        | (go_at_call 32; refine (tmade_any V cV vs _ HVL.out HS.out).mono ?_; rintro e wc ⟨rfl, gc⟩; rw [HMD.out]; have GC := Lib.hid (grown_trans' GV.out gc); have B0c := Lib.hid (B0v.out.kept gc); have B1c := Lib.hid (B1v.out.kept gc); clear gc)
        | (refine wpList_storeC (off := 0) (p := MADE) aggTr.hi rfl (.tmp 13) (.tmp 27) rfl (.agg MADE.toArray) rfl HMO.out (CB.new wc 25 tZero) HML.out (by have z1 := tZero_length; have z2 := HML.out; omega) (by first | rfl | go_simp) rfl ?_; intro ws hs gs; rw [over_all _ _ (by have z1 := tZero_length; have z2 := HML.out; omega)] at hs; have BS := Lib.hid hs; have B0s := Lib.hid ((B0c.out.alloc _).grown gs (by have := B0c.out.lt; omega)); have B1s := Lib.hid ((B1c.out.alloc _).grown gs (by have := B1c.out.lt; omega)); have GS := Lib.hid (none_new (grown_trans' GC.out (grown_alloc _ _ none)) gs GC.out.size); clear hs gs)
        | refine wpList_loadC (off := 0) (p := MADE) aggTr rfl (.tmp 13) rfl BS.out (whole_take HML.out) (by have z2 := HML.out; omega) (by first | rfl | go_simp) ?_
        | (go_at_call 12; rw [← HMD.out]; refine (tmadeW vs _ (HM.out.below (below_of_none GS.out)) HLE.out).mono ?_; rw [HMD.out]; intro e ww hw; obtain ⟨gw, hw⟩ := hw; rw [if_neg (by rw [HOK.out]; simp)] at hw; subst hw; have GW := Lib.hid (grown_trans' GS.out gw); have B0w := Lib.hid (B0s.out.kept gw); have B1w := Lib.hid (B1s.out.kept gw); have BW := Lib.hid (BS.out.kept gw); clear gw)
        | refine wpList_loadC (off := 0) (p := tZero) aggTr rfl (.tmp 10) rfl B1w.out (whole_take tZero_length) (by rw [tZero_length]; omega) (by first | rfl | go_simp) ?_
        | (refine wpList_storeC (off := 0) (p := tZero) aggTr.hi rfl (.tmp 8) (.tmp 42) rfl (.agg tZero.toArray) rfl tZero_one B0w.out tZero_length (by rw [tZero_length]; omega) (by first | rfl | go_simp) rfl ?_; intro w8 h8 g8; rw [over_all _ _ (Nat.le_refl _)] at h8; have H8 := Lib.hid h8; have G8 := Lib.hid (none_new GW.out g8 (Nat.le_refl _)); clear h8 g8))
      exact bodyPost_ret (results_C2 rfl _ aggTr H8.out tZero_length rfl rfl) rfl (Rd.no HRD.out G8.out rfl)
    | true =>
      have HOK := Lib.hid ho
      obtain ⟨BY, hby⟩ : ∃ B, tBytesV vs = B := ⟨_, rfl⟩
      have HBY := Lib.hid hby
      by_cases hq : BY = l
      · have HEQ := Lib.hid (decide_eq_true hq)
        have HRD := Lib.hid (show tReads l = true by rw [tReads, hvs, ho, hby, decide_eq_true hq, decide_eq_true hE]; rfl)
        clear hM hn hb h hT hE hvs hmd ho hq hby
        go_enter Tryz.func31, Tryz.ntmps31
        go_wp2_with (first
          | refine wpList_allocC zeroTr rfl rfl ?_
          | (go_at_call 45; refine (values_any A l cap n TA [1, 2, 3, 4, 5, 6] tc 6 _ HN.out rfl R0.out I0.out HB.out).mono ?_; rintro e wv ⟨v, rfl, hs, hb⟩; rw [HE.out]; have gv := none_of_below hb (Nat.le_refl _); have GV := Lib.hid (grown_trans' G0.out gv); have B0v := Lib.hid (B0.out.kept gv); have B1v := Lib.hid (B1.out.kept gv); clear hb gv; obtain ⟨V, cV, rfl, hrs⟩ := hs; rw [HVS.out] at hrs; rw [HVS.out]; rw [HVL.out]; have HS := Lib.hid hrs; clear hrs)
          | (go_at_call 32; refine (tmade_any V cV vs _ HVL.out HS.out).mono ?_; rintro e wc ⟨rfl, gc⟩; rw [HMD.out]; have GC := Lib.hid (grown_trans' GV.out gc); have B0c := Lib.hid (B0v.out.kept gc); have B1c := Lib.hid (B1v.out.kept gc); clear gc)
          | (refine wpList_storeC (off := 0) (p := MADE) aggTr.hi rfl (.tmp 13) (.tmp 27) rfl (.agg MADE.toArray) rfl HMO.out (CB.new wc 25 tZero) HML.out (by have z1 := tZero_length; have z2 := HML.out; omega) (by first | rfl | go_simp) rfl ?_; intro ws hs gs; rw [over_all _ _ (by have z1 := tZero_length; have z2 := HML.out; omega)] at hs; have BS := Lib.hid hs; have B0s := Lib.hid ((B0c.out.alloc _).grown gs (by have := B0c.out.lt; omega)); have B1s := Lib.hid ((B1c.out.alloc _).grown gs (by have := B1c.out.lt; omega)); have GS := Lib.hid (none_new (grown_trans' GC.out (grown_alloc _ _ none)) gs GC.out.size); clear hs gs)
          | refine wpList_loadC (off := 0) (p := MADE) aggTr rfl (.tmp 13) rfl BS.out (whole_take HML.out) (by have z2 := HML.out; omega) (by first | rfl | go_simp) ?_
          | (go_at_call 12; rw [← HMD.out]; refine (tmadeW vs _ (HM.out.below (below_of_none GS.out)) HLE.out).mono ?_; rw [HMD.out]; intro e ww hw; obtain ⟨gw, hw⟩ := hw; rw [if_pos HOK.out] at hw; obtain ⟨u, rfl, hu⟩ := hw; obtain ⟨UA, uc, rfl, ru⟩ := hu; rw [HBY.out]; rw [HBY.out] at ru; obtain ⟨mu, hmu⟩ : ∃ m, BY.length = m := ⟨_, rfl⟩; rw [hmu]; have HMU := Lib.hid hmu; have RU := Lib.hid ru; clear ru hmu; have GW := Lib.hid (grown_trans' GS.out gw); have B0w := Lib.hid (B0s.out.kept gw); have B1w := Lib.hid (B1s.out.kept gw); have BW := Lib.hid (BS.out.kept gw); clear gw)
          | (go_at_call 46; refine (bytesEq_any UA A BY l mu uc n cap _ HMU.out HN.out RU.out ((R9.out.kept GW.out (Nat.le_refl _)).more GW.out.size)).mono ?_; rintro e wq ⟨rfl, rfl⟩; rw [HEQ.out])
          | refine wpList_loadC (off := 0) (p := MADE) aggTr rfl (.tmp 13) rfl BW.out (whole_take HML.out) (by have z2 := HML.out; omega) (by first | rfl | go_simp) ?_
          | (refine wpList_storeC (off := 0) (p := MADE) aggTr.hi rfl (.tmp 8) (.tmp 43) rfl (.agg MADE.toArray) rfl HMO.out B0w.out HML.out (by have z1 := tZero_length; have z2 := HML.out; omega) (by first | rfl | go_simp) rfl ?_; intro w8 h8 g8; rw [over_all _ _ (by have z1 := tZero_length; have z2 := HML.out; omega)] at h8; have H8 := Lib.hid h8; have G8 := Lib.hid (none_new GW.out g8 (Nat.le_refl _)); clear h8 g8))
        exact bodyPost_ret (results_C2 rfl _ aggTr H8.out HML.out rfl rfl) rfl (Rd.yes HRD.out G8.out rfl)
      · have HEQ := Lib.hid (decide_eq_false hq)
        have HRD := Lib.hid (show tReads l = false by rw [tReads, hvs, ho, hby, decide_eq_false hq, Bool.and_false, Bool.and_false])
        clear hM hn hb h hT hE hvs hmd ho hq hby
        go_enter Tryz.func31, Tryz.ntmps31
        go_wp2_with (first
          | refine wpList_allocC zeroTr rfl rfl ?_
          | (go_at_call 45; refine (values_any A l cap n TA [1, 2, 3, 4, 5, 6] tc 6 _ HN.out rfl R0.out I0.out HB.out).mono ?_; rintro e wv ⟨v, rfl, hs, hb⟩; rw [HE.out]; have gv := none_of_below hb (Nat.le_refl _); have GV := Lib.hid (grown_trans' G0.out gv); have B0v := Lib.hid (B0.out.kept gv); have B1v := Lib.hid (B1.out.kept gv); clear hb gv; obtain ⟨V, cV, rfl, hrs⟩ := hs; rw [HVS.out] at hrs; rw [HVS.out]; rw [HVL.out]; have HS := Lib.hid hrs; clear hrs)
          | (go_at_call 32; refine (tmade_any V cV vs _ HVL.out HS.out).mono ?_; rintro e wc ⟨rfl, gc⟩; rw [HMD.out]; have GC := Lib.hid (grown_trans' GV.out gc); have B0c := Lib.hid (B0v.out.kept gc); have B1c := Lib.hid (B1v.out.kept gc); clear gc)
          | (refine wpList_storeC (off := 0) (p := MADE) aggTr.hi rfl (.tmp 13) (.tmp 27) rfl (.agg MADE.toArray) rfl HMO.out (CB.new wc 25 tZero) HML.out (by have z1 := tZero_length; have z2 := HML.out; omega) (by first | rfl | go_simp) rfl ?_; intro ws hs gs; rw [over_all _ _ (by have z1 := tZero_length; have z2 := HML.out; omega)] at hs; have BS := Lib.hid hs; have B0s := Lib.hid ((B0c.out.alloc _).grown gs (by have := B0c.out.lt; omega)); have B1s := Lib.hid ((B1c.out.alloc _).grown gs (by have := B1c.out.lt; omega)); have GS := Lib.hid (none_new (grown_trans' GC.out (grown_alloc _ _ none)) gs GC.out.size); clear hs gs)
          | refine wpList_loadC (off := 0) (p := MADE) aggTr rfl (.tmp 13) rfl BS.out (whole_take HML.out) (by have z2 := HML.out; omega) (by first | rfl | go_simp) ?_
          | (go_at_call 12; rw [← HMD.out]; refine (tmadeW vs _ (HM.out.below (below_of_none GS.out)) HLE.out).mono ?_; rw [HMD.out]; intro e ww hw; obtain ⟨gw, hw⟩ := hw; rw [if_pos HOK.out] at hw; obtain ⟨u, rfl, hu⟩ := hw; obtain ⟨UA, uc, rfl, ru⟩ := hu; rw [HBY.out]; rw [HBY.out] at ru; obtain ⟨mu, hmu⟩ : ∃ m, BY.length = m := ⟨_, rfl⟩; rw [hmu]; have HMU := Lib.hid hmu; have RU := Lib.hid ru; clear ru hmu; have GW := Lib.hid (grown_trans' GS.out gw); have B0w := Lib.hid (B0s.out.kept gw); have B1w := Lib.hid (B1s.out.kept gw); have BW := Lib.hid (BS.out.kept gw); clear gw)
          | (go_at_call 46; refine (bytesEq_any UA A BY l mu uc n cap _ HMU.out HN.out RU.out ((R9.out.kept GW.out (Nat.le_refl _)).more GW.out.size)).mono ?_; rintro e wq ⟨rfl, rfl⟩; rw [HEQ.out])
          | refine wpList_loadC (off := 0) (p := tZero) aggTr rfl (.tmp 10) rfl B1w.out (whole_take tZero_length) (by rw [tZero_length]; omega) (by first | rfl | go_simp) ?_
          | (refine wpList_storeC (off := 0) (p := tZero) aggTr.hi rfl (.tmp 8) (.tmp 42) rfl (.agg tZero.toArray) rfl tZero_one B0w.out tZero_length (by rw [tZero_length]; omega) (by first | rfl | go_simp) rfl ?_; intro w8 h8 g8; rw [over_all _ _ (Nat.le_refl _)] at h8; have H8 := Lib.hid h8; have G8 := Lib.hid (none_new GW.out g8 (Nat.le_refl _)); clear h8 g8))
        exact bodyPost_ret (results_C2 rfl _ aggTr H8.out tZero_length rfl rfl) rfl (Rd.no HRD.out G8.out rfl)
  · have HRD := Lib.hid (show tReads l = false by rw [tReads, hE, decide_eq_false h0, Bool.false_and])
    have e1 : (E == 0) = false := by simpa using h0
    clear hM hn hb h hT hE h0
    go_enter Tryz.func31, Tryz.ntmps31
    go_wp2_with (first
      | refine wpList_allocC zeroTr rfl rfl ?_
      | (go_at_call 45; refine (values_any A l cap n TA [1, 2, 3, 4, 5, 6] tc 6 _ HN.out rfl R0.out I0.out HB.out).mono ?_; rintro e wv ⟨v, rfl, hs, hb⟩; rw [HE.out]; have gv := none_of_below hb (Nat.le_refl _); have GV := Lib.hid (grown_trans' G0.out gv); have B0v := Lib.hid (B0.out.kept gv); have B1v := Lib.hid (B1.out.kept gv); clear hb gv; clear hs)
      | refine wpList_loadC (off := 0) (p := tZero) aggTr rfl (.tmp 10) rfl B1v.out (whole_take tZero_length) (by rw [tZero_length]; omega) (by first | rfl | go_simp) ?_
      | (refine wpList_storeC (off := 0) (p := tZero) aggTr.hi rfl (.tmp 8) (.tmp 24) rfl (.agg tZero.toArray) rfl tZero_one B0v.out tZero_length (by rw [tZero_length]; omega) (by first | rfl | go_simp) rfl ?_; intro w8 h8 g8; rw [over_all _ _ (Nat.le_refl _)] at h8; have H8 := Lib.hid h8; have G8 := Lib.hid (none_new GV.out g8 (Nat.le_refl _)); clear h8 g8))
    exact bodyPost_ret (results_C2 rfl _ aggTr H8.out tZero_length rfl rfl) rfl (Rd.no HRD.out G8.out rfl)

set_option maxRecDepth 10000 in
set_option maxHeartbeats 1000000 in
theorem tRead_any (n cap : Nat) (A : Option Addr) (l : List UInt8) (w : World) (hM : ML w) (hn : l.length = n) (hb : n ≤ 1000000) (h : RB w w.heap.size A l cap) :
    Calls Tryz.prog 18 #[.slice A n cap] w fun e w' => Rd w (tReads l) (tMade (tVals l)) tZero e w' := by
  have HM := Lib.hid hM
  have HN := Lib.hid hn
  have HB := Lib.hid hb
  have R0 := Lib.hid h
  obtain ⟨MADE, hmd⟩ : ∃ M, tMade (tVals l) = M := ⟨_, rfl⟩
  have HML := Lib.hid (show MADE.length = 21 by rw [← hmd]; exact tMade_length _)
  have HMO := Lib.hid (show ∀ u ∈ MADE, u.oneCell' = true by rw [← hmd]; exact tMade_one _)
  have HMD := Lib.hid hmd
  rw [hmd]
  have GA := Lib.hid (grown_alloc w (.cells tZero.toArray 25) none)
  have BA := Lib.hid (CB.new w 25 tZero)
  cases ho : tReads l with
  | false =>
    have HOK := Lib.hid ho
    clear hM hn hb h hmd ho
    go_enter Tryz.func18, Tryz.ntmps18
    go_wp2_with (first
      | refine wpList_allocC zeroTr rfl rfl ?_
      | (go_at_call 25; refine (tTags_any _).mono ?_; rintro e wt ⟨v, rfl, ht, gt⟩; obtain ⟨TA, tc, rfl, rt⟩ := ht; have IT := Lib.hid rt; have GT := Lib.hid (grown_trans' GA.out gt); have BT := Lib.hid (BA.out.kept gt); clear rt gt)
      | (go_at_call 31; refine (tread_any n cap A l TA tc _ (HM.out.below (below_of_none GT.out)) HN.out HB.out ((R0.out.kept GT.out (Nat.le_refl _)).more GT.out.size) IT.out).mono ?_; rw [HMD.out]; intro e wr hr; obtain ⟨gr, hr⟩ := hr; rw [if_neg (by rw [HOK.out]; simp)] at hr; subst hr; have GR := Lib.hid (grown_trans' GT.out gr); have BR := Lib.hid (BT.out.kept gr); clear gr)
      | (refine wpList_storeC (off := 0) (p := tZero) aggTr.hi rfl (.tmp 2) (.tmp 7) rfl (.agg tZero.toArray) rfl tZero_one BR.out tZero_length (by have z1 := tZero_length; omega) (by first | rfl | go_simp) rfl ?_; intro w8 h8 g8; rw [over_all _ _ (by exact Nat.le_refl _)] at h8; have H8 := Lib.hid h8; have G8 := Lib.hid (none_new GR.out g8 (Nat.le_refl _)); clear h8 g8))
    exact bodyPost_ret (results_C2 rfl _ aggTr H8.out tZero_length rfl rfl) rfl (Rd.no rfl G8.out rfl)
  | true =>
    have HOK := Lib.hid ho
    clear hM hn hb h hmd ho
    go_enter Tryz.func18, Tryz.ntmps18
    go_wp2_with (first
      | refine wpList_allocC zeroTr rfl rfl ?_
      | (go_at_call 25; refine (tTags_any _).mono ?_; rintro e wt ⟨v, rfl, ht, gt⟩; obtain ⟨TA, tc, rfl, rt⟩ := ht; have IT := Lib.hid rt; have GT := Lib.hid (grown_trans' GA.out gt); have BT := Lib.hid (BA.out.kept gt); clear rt gt)
      | (go_at_call 31; refine (tread_any n cap A l TA tc _ (HM.out.below (below_of_none GT.out)) HN.out HB.out ((R0.out.kept GT.out (Nat.le_refl _)).more GT.out.size) IT.out).mono ?_; rw [HMD.out]; intro e wr hr; obtain ⟨gr, hr⟩ := hr; rw [if_pos HOK.out] at hr; subst hr; have GR := Lib.hid (grown_trans' GT.out gr); have BR := Lib.hid (BT.out.kept gr); clear gr)
      | (refine wpList_storeC (off := 0) (p := MADE) aggTr.hi rfl (.tmp 2) (.tmp 7) rfl (.agg MADE.toArray) rfl HMO.out BR.out HML.out (by have z1 := tZero_length; have z2 := HML.out; omega) (by first | rfl | go_simp) rfl ?_; intro w8 h8 g8; rw [over_all _ _ (by have z1 := tZero_length; have z2 := HML.out; omega)] at h8; have H8 := Lib.hid h8; have G8 := Lib.hid (none_new GR.out g8 (Nat.le_refl _)); clear h8 g8))
    exact bodyPost_ret (results_C2 rfl _ aggTr H8.out HML.out rfl rfl) rfl (Rd.yes rfl G8.out rfl)

/-! Auth. -/
def aOkV (vs : List (List UInt8)) : Bool := aOk (vs.getD 0 []) (i64w (readOf (vs.getD 1 [])).1)
def aBytesV (vs : List (List UInt8)) : List UInt8 := bytesF (aFields (vs.getD 0 []) (keyB (vs.getD 3 [])) (i64w (readOf (vs.getD 1 [])).1).toNat (readOf (vs.getD 2 [])).1)
def aVals (l : List UInt8) : List (List UInt8) := (valuesOf l [11, 12, 13, 14]).1
/-- Are bytes such a thing's? -/
def aReads (l : List UInt8) : Bool := decide ((valuesOf l [11, 12, 13, 14]).2 = 0) && (aOkV (aVals l) && decide (aBytesV (aVals l) = l))
theorem aMade_one (vs : List (List UInt8)) : ∀ u ∈ aMade vs, u.oneCell' = true := acellsr_one _ _ _ _
theorem aZero_one : ∀ u ∈ aZero, u.oneCell' = true := acellsr_one _ _ _ _

/-! Grant. -/
def gOkV (vs : List (List UInt8)) : Bool := gOk (vs.getD 0 []) (i64w (readOf (vs.getD 3 [])).1) (i64w (readOf (vs.getD 4 [])).1) (i64w (readOf (vs.getD 5 [])).1)
def gBytesV (vs : List (List UInt8)) : List UInt8 := bytesF (gFields (vs.getD 0 []) (keyB (vs.getD 1 [])) (readOf (vs.getD 2 [])).1 (i64w (readOf (vs.getD 3 [])).1).toNat (i64w (readOf (vs.getD 4 [])).1).toNat (i64w (readOf (vs.getD 5 [])).1).toNat)
def gVals (l : List UInt8) : List (List UInt8) := (valuesOf l [21, 22, 23, 24, 25, 26]).1
/-- Are bytes such a thing's? -/
def gReads (l : List UInt8) : Bool := decide ((valuesOf l [21, 22, 23, 24, 25, 26]).2 = 0) && (gOkV (gVals l) && decide (gBytesV (gVals l) = l))
theorem gMade_one (vs : List (List UInt8)) : ∀ u ∈ gMade vs, u.oneCell' = true := gcellsr_one _ _ _ _ _ _
theorem gZero_one : ∀ u ∈ gZero, u.oneCell' = true := gcellsr_one _ _ _ _ _ _

end Go.Proofs.YthgejidimnbplaaGreatDoor
