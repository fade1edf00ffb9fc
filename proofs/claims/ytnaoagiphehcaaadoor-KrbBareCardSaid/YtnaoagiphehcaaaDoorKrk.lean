/- The walk of KrbBare. -/
import Derived.Test.YtnaoagiphehcaaaDoorKrj
namespace Go.Proofs.YtnaoagiphehcaaaDoor
open Go.RowKit
set_option linter.unusedVariables false

theorem okK_with_c {m : Msg} (h : okK m = true) : okK { m with c := ⟨#[97, 64, 82]⟩ } = (tagsK m.kd).contains 32 := by
  have ht := okK_tags h
  have e33 : stepK { m with c := ⟨#[97, 64, 82]⟩ } 33 = true := okK_step h (t := 33) (by omega) (by omega)
  have e34 : stepK { m with c := ⟨#[97, 64, 82]⟩ } 34 = true := okK_step h (t := 34) (by omega) (by omega)
  have e35 : stepK { m with c := ⟨#[97, 64, 82]⟩ } 35 = true := okK_step h (t := 35) (by omega) (by omega)
  have e36 : stepK { m with c := ⟨#[97, 64, 82]⟩ } 36 = true := okK_step h (t := 36) (by omega) (by omega)
  have e37 : stepK { m with c := ⟨#[97, 64, 82]⟩ } 37 = true := okK_step h (t := 37) (by omega) (by omega)
  have e38 : stepK { m with c := ⟨#[97, 64, 82]⟩ } 38 = true := okK_step h (t := 38) (by omega) (by omega)
  have e39 : stepK { m with c := ⟨#[97, 64, 82]⟩ } 39 = true := okK_step h (t := 39) (by omega) (by omega)
  have hs : stepK { m with c := ⟨#[97, 64, 82]⟩ } 32 = (tagsK m.kd).contains 32 := by
    show (if (tagsK m.kd).contains 32 then mayK { m with c := ⟨#[97, 64, 82]⟩ } 32 else decide ((valK { m with c := ⟨#[97, 64, 82]⟩ } 32).length = 0)) = _
    cases (tagsK m.kd).contains 32 with
    | true => rw [if_pos rfl]; show parses (⟨#[97, 64, 82]⟩ : ByteArray).data.toList = true; decide +kernel
    | false => rw [if_neg (by simp)]; rfl
  show (decide (tagsK m.kd ≠ []) && [32, 33, 34, 35, 36, 37, 38, 39].all (stepK { m with c := ⟨#[97, 64, 82]⟩ })) = _
  simp only [List.all_cons, List.all_nil, e33, e34, e35, e36, e37, e38, e39, hs, decide_eq_true ht, Bool.true_and, Bool.and_true]
theorem okK_with_s {m : Msg} (h : okK m = true) : okK { m with s := ⟨#[97, 64, 82]⟩ } = (tagsK m.kd).contains 33 := by
  have ht := okK_tags h
  have e32 : stepK { m with s := ⟨#[97, 64, 82]⟩ } 32 = true := okK_step h (t := 32) (by omega) (by omega)
  have e34 : stepK { m with s := ⟨#[97, 64, 82]⟩ } 34 = true := okK_step h (t := 34) (by omega) (by omega)
  have e35 : stepK { m with s := ⟨#[97, 64, 82]⟩ } 35 = true := okK_step h (t := 35) (by omega) (by omega)
  have e36 : stepK { m with s := ⟨#[97, 64, 82]⟩ } 36 = true := okK_step h (t := 36) (by omega) (by omega)
  have e37 : stepK { m with s := ⟨#[97, 64, 82]⟩ } 37 = true := okK_step h (t := 37) (by omega) (by omega)
  have e38 : stepK { m with s := ⟨#[97, 64, 82]⟩ } 38 = true := okK_step h (t := 38) (by omega) (by omega)
  have e39 : stepK { m with s := ⟨#[97, 64, 82]⟩ } 39 = true := okK_step h (t := 39) (by omega) (by omega)
  have hs : stepK { m with s := ⟨#[97, 64, 82]⟩ } 33 = (tagsK m.kd).contains 33 := by
    show (if (tagsK m.kd).contains 33 then mayK { m with s := ⟨#[97, 64, 82]⟩ } 33 else decide ((valK { m with s := ⟨#[97, 64, 82]⟩ } 33).length = 0)) = _
    cases (tagsK m.kd).contains 33 with
    | true => rw [if_pos rfl]; show parses (⟨#[97, 64, 82]⟩ : ByteArray).data.toList = true; decide +kernel
    | false => rw [if_neg (by simp)]; rfl
  show (decide (tagsK m.kd ≠ []) && [32, 33, 34, 35, 36, 37, 38, 39].all (stepK { m with s := ⟨#[97, 64, 82]⟩ })) = _
  simp only [List.all_cons, List.all_nil, e32, e34, e35, e36, e37, e38, e39, hs, decide_eq_true ht, Bool.true_and, Bool.and_true]
theorem okK_with_en {m : Msg} (h : okK m = true) : okK { m with en := 1 } = (tagsK m.kd).contains 35 := by
  have ht := okK_tags h
  have e32 : stepK { m with en := 1 } 32 = true := okK_step h (t := 32) (by omega) (by omega)
  have e33 : stepK { m with en := 1 } 33 = true := okK_step h (t := 33) (by omega) (by omega)
  have e34 : stepK { m with en := 1 } 34 = true := okK_step h (t := 34) (by omega) (by omega)
  have e36 : stepK { m with en := 1 } 36 = true := okK_step h (t := 36) (by omega) (by omega)
  have e37 : stepK { m with en := 1 } 37 = true := okK_step h (t := 37) (by omega) (by omega)
  have e38 : stepK { m with en := 1 } 38 = true := okK_step h (t := 38) (by omega) (by omega)
  have e39 : stepK { m with en := 1 } 39 = true := okK_step h (t := 39) (by omega) (by omega)
  have hs : stepK { m with en := 1 } 35 = (tagsK m.kd).contains 35 := by
    show (if (tagsK m.kd).contains 35 then mayK { m with en := 1 } 35 else decide ((valK { m with en := 1 } 35).length = 0)) = _
    cases (tagsK m.kd).contains 35 with
    | true => rw [if_pos rfl]; show timeOk 1 = true; decide +kernel
    | false => rw [if_neg (by simp)]; show decide ((numB (u64n 1)).length = 0) = false; decide +kernel
  show (decide (tagsK m.kd ≠ []) && [32, 33, 34, 35, 36, 37, 38, 39].all (stepK { m with en := 1 })) = _
  simp only [List.all_cons, List.all_nil, e32, e33, e34, e36, e37, e38, e39, hs, decide_eq_true ht, Bool.true_and, Bool.and_true]
theorem okK_with_fl {m : Msg} (h : okK m = true) : okK { m with fl := 1 } = (tagsK m.kd).contains 36 := by
  have ht := okK_tags h
  have e32 : stepK { m with fl := 1 } 32 = true := okK_step h (t := 32) (by omega) (by omega)
  have e33 : stepK { m with fl := 1 } 33 = true := okK_step h (t := 33) (by omega) (by omega)
  have e34 : stepK { m with fl := 1 } 34 = true := okK_step h (t := 34) (by omega) (by omega)
  have e35 : stepK { m with fl := 1 } 35 = true := okK_step h (t := 35) (by omega) (by omega)
  have e37 : stepK { m with fl := 1 } 37 = true := okK_step h (t := 37) (by omega) (by omega)
  have e38 : stepK { m with fl := 1 } 38 = true := okK_step h (t := 38) (by omega) (by omega)
  have e39 : stepK { m with fl := 1 } 39 = true := okK_step h (t := 39) (by omega) (by omega)
  have hs : stepK { m with fl := 1 } 36 = (tagsK m.kd).contains 36 := by
    show (if (tagsK m.kd).contains 36 then mayK { m with fl := 1 } 36 else decide ((valK { m with fl := 1 } 36).length = 0)) = _
    cases (tagsK m.kd).contains 36 with
    | true => rw [if_pos rfl]; show flagsOk 1 = true; decide +kernel
    | false => rw [if_neg (by simp)]; show decide ((numB (u64n 1)).length = 0) = false; decide +kernel
  show (decide (tagsK m.kd ≠ []) && [32, 33, 34, 35, 36, 37, 38, 39].all (stepK { m with fl := 1 })) = _
  simp only [List.all_cons, List.all_nil, e32, e33, e34, e35, e37, e38, e39, hs, decide_eq_true ht, Bool.true_and, Bool.and_true]
theorem okK_with_t {m : Msg} (h : okK m = true) : okK { m with t := [116] } = (tagsK m.kd).contains 37 := by
  have ht := okK_tags h
  have e32 : stepK { m with t := [116] } 32 = true := okK_step h (t := 32) (by omega) (by omega)
  have e33 : stepK { m with t := [116] } 33 = true := okK_step h (t := 33) (by omega) (by omega)
  have e34 : stepK { m with t := [116] } 34 = true := okK_step h (t := 34) (by omega) (by omega)
  have e35 : stepK { m with t := [116] } 35 = true := okK_step h (t := 35) (by omega) (by omega)
  have e36 : stepK { m with t := [116] } 36 = true := okK_step h (t := 36) (by omega) (by omega)
  have e38 : stepK { m with t := [116] } 38 = true := okK_step h (t := 38) (by omega) (by omega)
  have e39 : stepK { m with t := [116] } 39 = true := okK_step h (t := 39) (by omega) (by omega)
  have hs : stepK { m with t := [116] } 37 = (tagsK m.kd).contains 37 := by
    show (if (tagsK m.kd).contains 37 then mayK { m with t := [116] } 37 else decide ((valK { m with t := [116] } 37).length = 0)) = _
    cases (tagsK m.kd).contains 37 with
    | true => rw [if_pos rfl]; show decide (([116] : List UInt8).length ≤ 3000) = true; decide
    | false => rw [if_neg (by simp)]; rfl
  show (decide (tagsK m.kd ≠ []) && [32, 33, 34, 35, 36, 37, 38, 39].all (stepK { m with t := [116] })) = _
  simp only [List.all_cons, List.all_nil, e32, e33, e34, e35, e36, e38, e39, hs, decide_eq_true ht, Bool.true_and, Bool.and_true]
theorem okK_with_sl {m : Msg} (h : okK m = true) : okK { m with sl := [115] } = (tagsK m.kd).contains 38 := by
  have ht := okK_tags h
  have e32 : stepK { m with sl := [115] } 32 = true := okK_step h (t := 32) (by omega) (by omega)
  have e33 : stepK { m with sl := [115] } 33 = true := okK_step h (t := 33) (by omega) (by omega)
  have e34 : stepK { m with sl := [115] } 34 = true := okK_step h (t := 34) (by omega) (by omega)
  have e35 : stepK { m with sl := [115] } 35 = true := okK_step h (t := 35) (by omega) (by omega)
  have e36 : stepK { m with sl := [115] } 36 = true := okK_step h (t := 36) (by omega) (by omega)
  have e37 : stepK { m with sl := [115] } 37 = true := okK_step h (t := 37) (by omega) (by omega)
  have e39 : stepK { m with sl := [115] } 39 = true := okK_step h (t := 39) (by omega) (by omega)
  have hs : stepK { m with sl := [115] } 38 = (tagsK m.kd).contains 38 := by
    show (if (tagsK m.kd).contains 38 then mayK { m with sl := [115] } 38 else decide ((valK { m with sl := [115] } 38).length = 0)) = _
    cases (tagsK m.kd).contains 38 with
    | true => rw [if_pos rfl]; show decide (([115] : List UInt8).length ≤ 3000) = true; decide
    | false => rw [if_neg (by simp)]; rfl
  show (decide (tagsK m.kd ≠ []) && [32, 33, 34, 35, 36, 37, 38, 39].all (stepK { m with sl := [115] })) = _
  simp only [List.all_cons, List.all_nil, e32, e33, e34, e35, e36, e37, e39, hs, decide_eq_true ht, Bool.true_and, Bool.and_true]
theorem okK_with_co {m : Msg} (h : okK m = true) : okK { m with co := 1 } = (tagsK m.kd).contains 39 := by
  have ht := okK_tags h
  have e32 : stepK { m with co := 1 } 32 = true := okK_step h (t := 32) (by omega) (by omega)
  have e33 : stepK { m with co := 1 } 33 = true := okK_step h (t := 33) (by omega) (by omega)
  have e34 : stepK { m with co := 1 } 34 = true := okK_step h (t := 34) (by omega) (by omega)
  have e35 : stepK { m with co := 1 } 35 = true := okK_step h (t := 35) (by omega) (by omega)
  have e36 : stepK { m with co := 1 } 36 = true := okK_step h (t := 36) (by omega) (by omega)
  have e37 : stepK { m with co := 1 } 37 = true := okK_step h (t := 37) (by omega) (by omega)
  have e38 : stepK { m with co := 1 } 38 = true := okK_step h (t := 38) (by omega) (by omega)
  have hs : stepK { m with co := 1 } 39 = (tagsK m.kd).contains 39 := by
    show (if (tagsK m.kd).contains 39 then mayK { m with co := 1 } 39 else decide ((valK { m with co := 1 } 39).length = 0)) = _
    cases (tagsK m.kd).contains 39 with
    | true => rw [if_pos rfl]; show (decide ((1 : Int) ≤ 1) && decide ((1 : Int) ≤ 999)) = true; decide
    | false => rw [if_neg (by simp)]; show decide ((numB (u64n 1)).length = 0) = false; decide +kernel
  show (decide (tagsK m.kd ≠ []) && [32, 33, 34, 35, 36, 37, 38, 39].all (stepK { m with co := 1 })) = _
  simp only [List.all_cons, List.all_nil, e32, e33, e34, e35, e36, e37, e38, hs, decide_eq_true ht, Bool.true_and, Bool.and_true]
theorem RB.keptX {w w' : World} {g : Nat} {l : List UInt8} {c : Nat} {b : Nat} (h : RB w w.heap.size (some ⟨b, 0, none⟩) l c) (hg : w.grownBy w' (some g)) (hne : g < b) : RB w' w'.heap.size (some ⟨b, 0, none⟩) l c :=
  h.apart hg (fun a ha => .inr (fun e => by injection ha with ha; subst ha; injection e with e; have e2 : g = b := e; omega))
set_option maxRecDepth 100000 in
set_option maxHeartbeats 4000000 in
theorem bare_great (w : World) (hM : ML w) (m : Msg) (T : Option Addr) (tc : Nat) (S : Option Addr) (sc : Nat) (hk : KM w w.heap.size m T tc S sc) (hn : m.no < 18446744073709551616) (other : Int) (hg : greatK m = true) :
    Calls Tryd.prog 11 #[.agg (kcells m T tc S sc).toArray, .int .i64 other] w fun e w' => e = .returned (.bool true) ∧ Below w.heap.size w w' := by
  have HM := Lib.hid hM
  have HK := Lib.hid hk
  have HN := Lib.hid hn
  obtain ⟨X, hX⟩ : ∃ X, kcells m T tc S sc = X := ⟨_, rfl⟩
  have HX := Lib.hid hX
  have XL := Lib.hid (show X.length = 9 by rw [← hX]; rfl)
  have XO := Lib.hid (show ∀ u ∈ X, u.oneCell' = true by rw [← hX]; exact kcells_one m T tc S sc)
  have Xk := Lib.hid (show X[0]? = some (.int .i64 m.kd) by rw [← hX]; rfl)
  obtain ⟨kd, hkd⟩ : ∃ k, m.kd = k := ⟨_, rfl⟩
  have HKD := Lib.hid hkd
  rw [hkd] at Xk
  have B0 := Lib.hid (CB.new w 59 X)
  have G0 := Lib.hid (grown_alloc w (.cells X.toArray 59) none)
  rw [hX]
  have HG := Lib.hid hg
  clear hM hk hn hX hg hkd
  go_enter Tryd.func11, Tryd.ntmps11
  go_wp2_with (first
    | (go_at_call 29; refine (kspeaks_any _ (HM.out.below (below_of_none G0.out))).mono ?_; rintro e w1 ⟨rfl, g⟩; have G1 := Lib.hid (grown_trans' G0.out g); have B1 := Lib.hid (B0.out.kept g); clear g)
    | refine wpList_loadC (off := 0) (p := X) aggKm rfl (.tmp 2) rfl B1.out (by rw [List.drop_zero]; exact List.take_of_length_le (by rw [XL.out]; exact Nat.le_refl _)) (by rw [XL.out]; omega) (by first | rfl | go_simp) ?_
    | (go_at_call 30; rw [← HX.out]; refine (great_k m T tc S sc _).mono ?_; rw [HX.out, HG.out]; rintro e w2 ⟨rfl, g⟩; have G2 := Lib.hid (grown_trans' G1.out g); have B2 := Lib.hid (B1.out.kept g); clear g))
  go_ret
  exact ⟨rfl, below_of_none G2.out⟩
set_option maxRecDepth 100000 in
set_option maxHeartbeats 4000000 in
theorem bare_wrong (w : World) (hM : ML w) (m : Msg) (T : Option Addr) (tc : Nat) (S : Option Addr) (sc : Nat) (hk : KM w w.heap.size m T tc S sc) (hn : m.no < 18446744073709551616) (other : Int) (hg : greatK m = false) (ho : okK m = false) :
    Calls Tryd.prog 11 #[.agg (kcells m T tc S sc).toArray, .int .i64 other] w fun e w' => e = .returned (.bool true) ∧ Below w.heap.size w w' := by
  have HM := Lib.hid hM
  have HK := Lib.hid hk
  have HN := Lib.hid hn
  obtain ⟨X, hX⟩ : ∃ X, kcells m T tc S sc = X := ⟨_, rfl⟩
  have HX := Lib.hid hX
  have XL := Lib.hid (show X.length = 9 by rw [← hX]; rfl)
  have XO := Lib.hid (show ∀ u ∈ X, u.oneCell' = true by rw [← hX]; exact kcells_one m T tc S sc)
  have Xk := Lib.hid (show X[0]? = some (.int .i64 m.kd) by rw [← hX]; rfl)
  obtain ⟨kd, hkd⟩ : ∃ k, m.kd = k := ⟨_, rfl⟩
  have HKD := Lib.hid hkd
  rw [hkd] at Xk
  have B0 := Lib.hid (CB.new w 59 X)
  have G0 := Lib.hid (grown_alloc w (.cells X.toArray 59) none)
  rw [hX]
  have HG := Lib.hid hg
  have HOK := Lib.hid ho
  have HC := Lib.hid (show m.c.size ≤ 1000000 by have := greatK_lens hg; omega)
  have HS := Lib.hid (show m.s.size ≤ 1000000 by have := greatK_lens hg; omega)
  clear hM hk hn hX hg ho hkd
  go_enter Tryd.func11, Tryd.ntmps11
  go_wp2_with (first
    | (go_at_call 29; refine (kspeaks_any _ (HM.out.below (below_of_none G0.out))).mono ?_; rintro e w1 ⟨rfl, g⟩; have G1 := Lib.hid (grown_trans' G0.out g); have B1 := Lib.hid (B0.out.kept g); clear g)
    | refine wpList_loadC (off := 0) (p := X) aggKm rfl (.tmp 2) rfl B1.out (by rw [List.drop_zero]; exact List.take_of_length_le (by rw [XL.out]; exact Nat.le_refl _)) (by rw [XL.out]; omega) (by first | rfl | go_simp) ?_
    | (go_at_call 30; rw [← HX.out]; refine (great_k m T tc S sc _).mono ?_; rw [HX.out, HG.out]; rintro e w2 ⟨rfl, g⟩; have G2 := Lib.hid (grown_trans' G1.out g); have B2 := Lib.hid (B1.out.kept g); clear g)
    | refine wpList_loadCg (off := 0) (p := X) aggKm (by first | rfl | go_simp) (.tmp 2) rfl B2.out (by rw [List.drop_zero]; exact List.take_of_length_le (by rw [XL.out]; exact Nat.le_refl _)) (by rw [XL.out]; omega) (by first | rfl | go_simp) ?_
    | (go_at_call 33; rw [← HX.out]; refine (check_k m T tc S sc w.heap.size _ (HM.out.below (below_of_none G2.out)) (HK.out.kept G2.out (Nat.le_refl _)) G2.out.size HN.out HC.out HS.out).mono ?_; rw [HX.out, HOK.out, if_neg (by simp)]; rintro e w3 ⟨rfl, g⟩; have G3 := Lib.hid (grown_trans' G2.out g); have B3 := Lib.hid (B2.out.kept g); clear g))
  go_ret
  exact ⟨rfl, below_of_none G3.out⟩
def mZ9 : Msg := ⟨0, ⟨#[]⟩, ⟨#[]⟩, 0, 0, 0, [], [], 0⟩
theorem zeroKm (w : World) : (zeroValue 59).run Tryd.prog w = .ok (.agg (kcells mZ9 none 0 none 0).toArray) w := by kernel_rfl
set_option maxRecDepth 100000 in
set_option maxHeartbeats 4000000 in
theorem bare_32 (w : World) (hM : ML w) (m : Msg) (T : Option Addr) (tc : Nat) (S : Option Addr) (sc : Nat) (hk : KM w w.heap.size m T tc S sc) (hn : m.no < 18446744073709551616) (other : Int) (hg : greatK m = false) (ho : okK m = true) (hj : bits .and .i64 other 7 = 0) :
    Calls Tryd.prog 11 #[.agg (kcells m T tc S sc).toArray, .int .i64 other] w fun e w' => e = .returned (.bool true) ∧ Below w.heap.size w w' := by
  have HM := Lib.hid hM
  have HK := Lib.hid hk
  have HN := Lib.hid hn
  obtain ⟨X, hX⟩ : ∃ X, kcells m T tc S sc = X := ⟨_, rfl⟩
  have HX := Lib.hid hX
  have XL := Lib.hid (show X.length = 9 by rw [← hX]; rfl)
  have XO := Lib.hid (show ∀ u ∈ X, u.oneCell' = true by rw [← hX]; exact kcells_one m T tc S sc)
  have Xk := Lib.hid (show X[0]? = some (.int .i64 m.kd) by rw [← hX]; rfl)
  obtain ⟨kd, hkd⟩ : ∃ k, m.kd = k := ⟨_, rfl⟩
  have HKD := Lib.hid hkd
  rw [hkd] at Xk
  have B0 := Lib.hid (CB.new w 59 X)
  have G0 := Lib.hid (grown_alloc w (.cells X.toArray 59) none)
  rw [hX]
  have HG := Lib.hid hg
  have HOK := Lib.hid ho
  have HC := Lib.hid (show m.c.size ≤ 1000000 by have := greatK_lens hg; omega)
  have HS := Lib.hid (show m.s.size ≤ 1000000 by have := greatK_lens hg; omega)
  obtain ⟨M, hMM⟩ : ∃ M, { m with c := ⟨#[97, 64, 82]⟩ } = M := ⟨_, rfl⟩
  obtain ⟨ct, hct⟩ : ∃ b, (tagsK kd).contains 32 = b := ⟨_, rfl⟩
  have HCT := Lib.hid hct
  have HO2 := Lib.hid (show okK M = ct by rw [← hMM, okK_with_c ho, hkd, hct])
  have HN2 := Lib.hid (show M.no < 18446744073709551616 by rw [← hMM]; exact hn)
  have HC2 := Lib.hid (show M.c.size ≤ 1000000 by rw [← hMM]; show (⟨#[97, 64, 82]⟩ : ByteArray).size ≤ 1000000; decide)
  have HS2 := Lib.hid (show M.s.size ≤ 1000000 by rw [← hMM]; exact HS.out)
  have XLT := Lib.hid (show 1 < X.length by rw [XL.out]; omega)
  have HXS := Lib.hid (show X.set 1 (.string ⟨#[97, 64, 82]⟩) = kcells M T tc S sc by rw [← hX, ← hMM]; rfl)
  have HMT := Lib.hid (show M.t = m.t ∧ M.sl = m.sl by rw [← hMM]; exact ⟨rfl, rfl⟩)
  clear hM hk hn hX hg ho hkd hMM hct
  go_enter Tryd.func11, Tryd.ntmps11
  go_wp2_with (first
    | (refine wpList_storeC (off := 1) (p := [.string ⟨#[97, 64, 82]⟩]) (by kernel_rfl) rfl (.tmp 23) (.const (.string ⟨#[97, 64, 82]⟩)) rfl (.string ⟨#[97, 64, 82]⟩) rfl (fun u hu => by rw [List.mem_singleton.1 hu]; rfl) C4.out rfl XLT.out (by first | rfl | go_simp) rfl ?_; intro w5 h5 g5; rw [over_one _ _ _ XLT.out, HXS.out] at h5; have C5 := Lib.hid h5; have GH := Lib.hid (none_new GG.out g5 (Nat.le_refl _)); have G5 := Lib.hid (grown_trans' G3.out GH.out); have B5 := Lib.hid (B3.out.kept GH.out); clear h5 g5)
    | (go_at_call 29; refine (kspeaks_any _ (HM.out.below (below_of_none G0.out))).mono ?_; rintro e w1 ⟨rfl, g⟩; have G1 := Lib.hid (grown_trans' G0.out g); have B1 := Lib.hid (B0.out.kept g); clear g)
    | refine wpList_loadC (off := 0) (p := X) aggKm rfl (.tmp 2) rfl B1.out (by rw [List.drop_zero]; exact List.take_of_length_le (by rw [XL.out]; exact Nat.le_refl _)) (by rw [XL.out]; omega) (by first | rfl | go_simp) ?_
    | (go_at_call 30; rw [← HX.out]; refine (great_k m T tc S sc _).mono ?_; rw [HX.out, HG.out]; rintro e w2 ⟨rfl, g⟩; have G2 := Lib.hid (grown_trans' G1.out g); have B2 := Lib.hid (B1.out.kept g); clear g)
    | refine wpList_loadCg (off := 0) (p := X) aggKm (by first | rfl | go_simp) (.tmp 2) rfl B2.out (by rw [List.drop_zero]; exact List.take_of_length_le (by rw [XL.out]; exact Nat.le_refl _)) (by rw [XL.out]; omega) (by first | rfl | go_simp) ?_
    | (go_at_call 33; rw [← HX.out]; refine (check_k m T tc S sc w.heap.size _ (HM.out.below (below_of_none G2.out)) (HK.out.kept G2.out (Nat.le_refl _)) G2.out.size HN.out HC.out HS.out).mono ?_; rw [HX.out, HOK.out, if_pos rfl]; rintro e w3 ⟨rfl, g⟩; have G3 := Lib.hid (grown_trans' G2.out g); have B3 := Lib.hid (B2.out.kept g); clear g)
    | refine wpList_loadC (off := 0) (p := X) aggKm rfl (.tmp 2) rfl B3.out (by rw [List.drop_zero]; exact List.take_of_length_le (by rw [XL.out]; exact Nat.le_refl _)) (by rw [XL.out]; omega) (by first | rfl | go_simp) ?_
    | refine wpList_allocC zeroKm rfl rfl ?_
    | (refine wpList_storeC (off := 0) (p := X) aggKm.hi rfl (.tmp 5) (.tmp 16) rfl (.agg X.toArray) rfl XO.out (CB.new w3 59 (kcells mZ9 none 0 none 0)) XL.out (by rw [kcells_length]; omega) (by first | rfl | go_simp) rfl ?_; intro w4 h4 g4; rw [over_all _ _ (by rw [XL.out]; exact Nat.le_refl _)] at h4; have C4 := Lib.hid h4; have GG := Lib.hid (none_new (grown_alloc w3 (.cells (kcells mZ9 none 0 none 0).toArray 59) none) g4 (Nat.le_refl _)); have G4 := Lib.hid (grown_trans' G3.out GG.out); have B4 := Lib.hid (B3.out.kept GG.out); clear h4 g4))
  obtain ⟨T2, tc2, S2, sc2, hkk⟩ : ∃ T2 tc2 S2 sc2, kcells M T2 tc2 S2 sc2 = kcells M T tc S sc ∧ KM w5.drew w5.drew.heap.size M T2 tc2 S2 sc2 := ⟨T, tc, S, sc, rfl, ⟨by rw [HMT.out.1]; exact (HK.out.1.kept G5.out (Nat.le_refl _)).more G5.out.size, by rw [HMT.out.2]; exact (HK.out.2.kept G5.out (Nat.le_refl _)).more G5.out.size⟩⟩
  obtain ⟨X2, hX2⟩ : ∃ X, kcells M T2 tc2 S2 sc2 = X := ⟨_, rfl⟩
  have HX2 := Lib.hid hX2
  have X2L := Lib.hid (show X2.length = 9 by rw [← hX2]; rfl)
  have HKM := Lib.hid hkk.2
  have D5 := Lib.hid (show CB w5.drew w3.heap.size 59 X2 by rw [← hX2, hkk.1]; exact C5.out)
  have DB := Lib.hid (show CB w5.drew w.heap.size 59 X from B5.out)
  have GD := Lib.hid (grown_drew G5.out)
  clear hkk hX2
  refine heldb_begin w5.drew.heap.size (by kernel_rfl) (fun hS1 => ?_)
  have GZ := Lib.hid (World.grownBy.refl w5.drew none)
  generalize w5.drew = wd at *
  cases ct with
  | true =>
    refine heldb_take (i := 0) (d := some 46) (v := ?vqr32z22x1) (by assumption) rfl rfl (by kernel_rfl) (fun _ _ _ h => h) ?yqr32z22x1 ?_; case yqr32z22x1 => (refine Or.inl ⟨rfl, fun wx hS => ?_⟩; go_simp; try with_reducible rfl)
    try simp only [Act.put, List.setIfInBounds_toArray, List.set_cons_zero, List.set_cons_succ]
    refine heldb_take (i := 1) (d := some 47) (v := ?vqr32z22x2) (by assumption) rfl rfl (by kernel_rfl) (fun _ _ _ h => h) ?yqr32z22x2 ?_; case yqr32z22x2 => (refine Or.inl ⟨rfl, fun wx hS => ?_⟩; go_simp; try with_reducible rfl)
    try simp only [Act.put, List.setIfInBounds_toArray, List.set_cons_zero, List.set_cons_succ]
    refine heldb_take (i := 2) (d := some 48) (v := ?vqr32z22x3) (by assumption) rfl rfl (by kernel_rfl) (fun _ _ _ h => h) ?yqr32z22x3 ?_; case yqr32z22x3 => (refine Or.inl ⟨rfl, fun wx hS => ?_⟩; go_simp; try with_reducible rfl)
    try simp only [Act.put, List.setIfInBounds_toArray, List.set_cons_zero, List.set_cons_succ]
    refine heldb_take (i := 3) (d := some 49) (v := _) (by assumption) rfl rfl (by kernel_rfl) (fun _ _ _ h => h) (yields_loadC (p := X2) (off := 0) aggKm (.tmp 5) rfl rfl (fun wx hx => D5.out.below hx D5.out.lt) (by rw [List.drop_zero]; exact List.take_of_length_le (by rw [X2L.out]; exact Nat.le_refl _)) (by rw [X2L.out]; omega) rfl) ?_
    try simp only [Act.put, List.setIfInBounds_toArray, List.set_cons_zero, List.set_cons_succ]
    first | refine heldb_skip (i := 6) (d := some 52) (by assumption) rfl rfl (by kernel_rfl) (fun _ _ _ h => h) rfl ?_ | (refine heldb_take (i := 6) (d := some 52) (v := ?vqr32z22x5) (by assumption) rfl rfl (by kernel_rfl) (fun _ _ _ h => h) ?yqr32z22x5 ?_; case yqr32z22x5 => (refine Or.inl ⟨rfl, fun wx hS => ?_⟩; go_simp; try with_reducible rfl))
    try simp only [Act.put, List.setIfInBounds_toArray, List.set_cons_zero, List.set_cons_succ]
    refine heldb_take (i := 7) (d := some 53) (v := _) (by assumption) rfl rfl (by kernel_rfl) (fun _ _ _ h => h) (yields_cell1 (by intro w; kernel_rfl) (.tmp 52) rfl rfl (ad := ⟨w.heap.size, 0, none⟩) (v := .int .i64 kd) (fun wx hx => (hx.cell (p := ⟨w.heap.size, 0, none⟩) DB.out.lt).trans (DB.out.at_ Xk.out)) rfl) ?_
    try simp only [Act.put, List.setIfInBounds_toArray, List.set_cons_zero, List.set_cons_succ]
    first | refine heldb_skip (i := 8) (d := some 54) (by assumption) rfl rfl (by kernel_rfl) (fun _ _ _ h => h) rfl ?_ | (refine heldb_take (i := 8) (d := some 54) (v := ?vqr32z22x7) (by assumption) rfl rfl (by kernel_rfl) (fun _ _ _ h => h) ?yqr32z22x7 ?_; case yqr32z22x7 => (refine Or.inl ⟨rfl, fun wx hS => ?_⟩; go_simp; try with_reducible rfl))
    try simp only [Act.put, List.setIfInBounds_toArray, List.set_cons_zero, List.set_cons_succ]
    refine heldb_one (i := 4) rfl (by kernel_rfl) rfl (fun K hK => ?_)
    go_simp
    rw [← HX2.out]
    refine (check_k M T2 tc2 S2 sc2 wd.heap.size _ (HM.out.below (below_of_none (grown_trans' GD.out GZ.out))) (HKM.out.kept GZ.out (Nat.le_refl _)) GZ.out.size HN2.out HC2.out HS2.out).mono ?_
    rw [HX2.out, HO2.out, if_pos rfl]
    rintro e wr32z22x8 ⟨rfl, gr32z22x9⟩
    have Gr32z22x10 := Lib.hid (grown_trans' GZ.out gr32z22x9)
    have hb := below_of_none Gr32z22x10.out
    refine hK.out _ _ hb (fun hSr32z22x11 => ?_)
    clear hb hK K
    try simp only [Act.put, List.setIfInBounds_toArray, List.set_cons_zero, List.set_cons_succ]
    clear gr32z22x9
    first | refine heldb_skip (i := 5) (d := some 51) (by assumption) rfl rfl (by kernel_rfl) (fun _ _ _ h => h) rfl ?_ | (refine heldb_take (i := 5) (d := some 51) (v := ?vqr32z22x12) (by assumption) rfl rfl (by kernel_rfl) (fun _ _ _ h => h) ?yqr32z22x12 ?_; case yqr32z22x12 => (refine Or.inl ⟨rfl, fun wx hS => ?_⟩; go_simp; try with_reducible rfl))
    try simp only [Act.put, List.setIfInBounds_toArray, List.set_cons_zero, List.set_cons_succ]
    refine heldb_one (i := 9) rfl (by kernel_rfl) rfl (fun K hK => ?_)
    go_simp
    refine (refHas_any kd 32 _).mono ?_
    rintro e wr32z22x13 ⟨rfl, gr32z22x14⟩
    rw [HCT.out]
    have Gr32z22x15 := Lib.hid (grown_trans' Gr32z22x10.out gr32z22x14)
    have hb := below_of_none Gr32z22x15.out
    refine hK.out _ _ hb (fun hSr32z22x16 => ?_)
    clear hb hK K
    try simp only [Act.put, List.setIfInBounds_toArray, List.set_cons_zero, List.set_cons_succ]
    clear gr32z22x14
    first | refine heldb_skip (i := 10) (d := some 56) (by assumption) rfl rfl (by kernel_rfl) (fun _ _ _ h => h) rfl ?_ | (refine heldb_take (i := 10) (d := some 56) (v := ?vqr32z22x17) (by assumption) rfl rfl (by kernel_rfl) (fun _ _ _ h => h) ?yqr32z22x17 ?_; case yqr32z22x17 => (refine Or.inl ⟨rfl, fun wx hS => ?_⟩; go_simp; try with_reducible rfl))
    try simp only [Act.put, List.setIfInBounds_toArray, List.set_cons_zero, List.set_cons_succ]
    refine heldb_take (i := 11) (d := some 57) (v := ?vqr32z22x18) (by assumption) rfl rfl (by kernel_rfl) (fun _ _ _ h => h) ?yqr32z22x18 ?_; case yqr32z22x18 => (refine Or.inl ⟨rfl, fun wx hS => ?_⟩; go_simp; try with_reducible rfl)
    try simp only [Act.put, List.setIfInBounds_toArray, List.set_cons_zero, List.set_cons_succ]
    refine heldb_take (i := 12) (d := some 4) (v := ?vqr32z22x19) (by assumption) rfl rfl (by kernel_rfl) (fun _ _ _ h => h) ?yqr32z22x19 ?_; case yqr32z22x19 => (refine Or.inl ⟨rfl, fun wx hS => ?_⟩; go_simp; try with_reducible rfl)
    try simp only [Act.put, List.setIfInBounds_toArray, List.set_cons_zero, List.set_cons_succ]
    refine held_end (by kernel_rfl) ?_ _
    go_wp2
    go_ret
    exact ⟨rfl, below_of_none (grown_trans' GD.out Gr32z22x15.out)⟩
  | false =>
    refine heldb_take (i := 0) (d := some 46) (v := ?vqr132z22x1) (by assumption) rfl rfl (by kernel_rfl) (fun _ _ _ h => h) ?yqr132z22x1 ?_; case yqr132z22x1 => (refine Or.inl ⟨rfl, fun wx hS => ?_⟩; go_simp; try with_reducible rfl)
    try simp only [Act.put, List.setIfInBounds_toArray, List.set_cons_zero, List.set_cons_succ]
    refine heldb_take (i := 1) (d := some 47) (v := ?vqr132z22x2) (by assumption) rfl rfl (by kernel_rfl) (fun _ _ _ h => h) ?yqr132z22x2 ?_; case yqr132z22x2 => (refine Or.inl ⟨rfl, fun wx hS => ?_⟩; go_simp; try with_reducible rfl)
    try simp only [Act.put, List.setIfInBounds_toArray, List.set_cons_zero, List.set_cons_succ]
    refine heldb_take (i := 2) (d := some 48) (v := ?vqr132z22x3) (by assumption) rfl rfl (by kernel_rfl) (fun _ _ _ h => h) ?yqr132z22x3 ?_; case yqr132z22x3 => (refine Or.inl ⟨rfl, fun wx hS => ?_⟩; go_simp; try with_reducible rfl)
    try simp only [Act.put, List.setIfInBounds_toArray, List.set_cons_zero, List.set_cons_succ]
    refine heldb_take (i := 3) (d := some 49) (v := _) (by assumption) rfl rfl (by kernel_rfl) (fun _ _ _ h => h) (yields_loadC (p := X2) (off := 0) aggKm (.tmp 5) rfl rfl (fun wx hx => D5.out.below hx D5.out.lt) (by rw [List.drop_zero]; exact List.take_of_length_le (by rw [X2L.out]; exact Nat.le_refl _)) (by rw [X2L.out]; omega) rfl) ?_
    try simp only [Act.put, List.setIfInBounds_toArray, List.set_cons_zero, List.set_cons_succ]
    first | refine heldb_skip (i := 6) (d := some 52) (by assumption) rfl rfl (by kernel_rfl) (fun _ _ _ h => h) rfl ?_ | (refine heldb_take (i := 6) (d := some 52) (v := ?vqr132z22x5) (by assumption) rfl rfl (by kernel_rfl) (fun _ _ _ h => h) ?yqr132z22x5 ?_; case yqr132z22x5 => (refine Or.inl ⟨rfl, fun wx hS => ?_⟩; go_simp; try with_reducible rfl))
    try simp only [Act.put, List.setIfInBounds_toArray, List.set_cons_zero, List.set_cons_succ]
    refine heldb_take (i := 7) (d := some 53) (v := _) (by assumption) rfl rfl (by kernel_rfl) (fun _ _ _ h => h) (yields_cell1 (by intro w; kernel_rfl) (.tmp 52) rfl rfl (ad := ⟨w.heap.size, 0, none⟩) (v := .int .i64 kd) (fun wx hx => (hx.cell (p := ⟨w.heap.size, 0, none⟩) DB.out.lt).trans (DB.out.at_ Xk.out)) rfl) ?_
    try simp only [Act.put, List.setIfInBounds_toArray, List.set_cons_zero, List.set_cons_succ]
    first | refine heldb_skip (i := 8) (d := some 54) (by assumption) rfl rfl (by kernel_rfl) (fun _ _ _ h => h) rfl ?_ | (refine heldb_take (i := 8) (d := some 54) (v := ?vqr132z22x7) (by assumption) rfl rfl (by kernel_rfl) (fun _ _ _ h => h) ?yqr132z22x7 ?_; case yqr132z22x7 => (refine Or.inl ⟨rfl, fun wx hS => ?_⟩; go_simp; try with_reducible rfl))
    try simp only [Act.put, List.setIfInBounds_toArray, List.set_cons_zero, List.set_cons_succ]
    refine heldb_one (i := 4) rfl (by kernel_rfl) rfl (fun K hK => ?_)
    go_simp
    rw [← HX2.out]
    refine (check_k M T2 tc2 S2 sc2 wd.heap.size _ (HM.out.below (below_of_none (grown_trans' GD.out GZ.out))) (HKM.out.kept GZ.out (Nat.le_refl _)) GZ.out.size HN2.out HC2.out HS2.out).mono ?_
    rw [HX2.out, HO2.out, if_neg (by simp)]
    rintro e wr132z22x8 ⟨rfl, gr132z22x9⟩
    have Gr132z22x10 := Lib.hid (grown_trans' GZ.out gr132z22x9)
    have hb := below_of_none Gr132z22x10.out
    refine hK.out _ _ hb (fun hSr132z22x11 => ?_)
    clear hb hK K
    try simp only [Act.put, List.setIfInBounds_toArray, List.set_cons_zero, List.set_cons_succ]
    clear gr132z22x9
    first | refine heldb_skip (i := 5) (d := some 51) (by assumption) rfl rfl (by kernel_rfl) (fun _ _ _ h => h) rfl ?_ | (refine heldb_take (i := 5) (d := some 51) (v := ?vqr132z22x12) (by assumption) rfl rfl (by kernel_rfl) (fun _ _ _ h => h) ?yqr132z22x12 ?_; case yqr132z22x12 => (refine Or.inl ⟨rfl, fun wx hS => ?_⟩; go_simp; try with_reducible rfl))
    try simp only [Act.put, List.setIfInBounds_toArray, List.set_cons_zero, List.set_cons_succ]
    refine heldb_one (i := 9) rfl (by kernel_rfl) rfl (fun K hK => ?_)
    go_simp
    refine (refHas_any kd 32 _).mono ?_
    rintro e wr132z22x13 ⟨rfl, gr132z22x14⟩
    rw [HCT.out]
    have Gr132z22x15 := Lib.hid (grown_trans' Gr132z22x10.out gr132z22x14)
    have hb := below_of_none Gr132z22x15.out
    refine hK.out _ _ hb (fun hSr132z22x16 => ?_)
    clear hb hK K
    try simp only [Act.put, List.setIfInBounds_toArray, List.set_cons_zero, List.set_cons_succ]
    clear gr132z22x14
    first | refine heldb_skip (i := 10) (d := some 56) (by assumption) rfl rfl (by kernel_rfl) (fun _ _ _ h => h) rfl ?_ | (refine heldb_take (i := 10) (d := some 56) (v := ?vqr132z22x17) (by assumption) rfl rfl (by kernel_rfl) (fun _ _ _ h => h) ?yqr132z22x17 ?_; case yqr132z22x17 => (refine Or.inl ⟨rfl, fun wx hS => ?_⟩; go_simp; try with_reducible rfl))
    try simp only [Act.put, List.setIfInBounds_toArray, List.set_cons_zero, List.set_cons_succ]
    refine heldb_take (i := 11) (d := some 57) (v := ?vqr132z22x18) (by assumption) rfl rfl (by kernel_rfl) (fun _ _ _ h => h) ?yqr132z22x18 ?_; case yqr132z22x18 => (refine Or.inl ⟨rfl, fun wx hS => ?_⟩; go_simp; try with_reducible rfl)
    try simp only [Act.put, List.setIfInBounds_toArray, List.set_cons_zero, List.set_cons_succ]
    refine heldb_take (i := 12) (d := some 4) (v := ?vqr132z22x19) (by assumption) rfl rfl (by kernel_rfl) (fun _ _ _ h => h) ?yqr132z22x19 ?_; case yqr132z22x19 => (refine Or.inl ⟨rfl, fun wx hS => ?_⟩; go_simp; try with_reducible rfl)
    try simp only [Act.put, List.setIfInBounds_toArray, List.set_cons_zero, List.set_cons_succ]
    refine held_end (by kernel_rfl) ?_ _
    go_wp2
    go_ret
    exact ⟨rfl, below_of_none (grown_trans' GD.out Gr132z22x15.out)⟩
set_option maxRecDepth 100000 in
set_option maxHeartbeats 4000000 in
theorem bare_33 (w : World) (hM : ML w) (m : Msg) (T : Option Addr) (tc : Nat) (S : Option Addr) (sc : Nat) (hk : KM w w.heap.size m T tc S sc) (hn : m.no < 18446744073709551616) (other : Int) (hg : greatK m = false) (ho : okK m = true) (hj : bits .and .i64 other 7 = 1) :
    Calls Tryd.prog 11 #[.agg (kcells m T tc S sc).toArray, .int .i64 other] w fun e w' => e = .returned (.bool true) ∧ Below w.heap.size w w' := by
  have HM := Lib.hid hM
  have HK := Lib.hid hk
  have HN := Lib.hid hn
  obtain ⟨X, hX⟩ : ∃ X, kcells m T tc S sc = X := ⟨_, rfl⟩
  have HX := Lib.hid hX
  have XL := Lib.hid (show X.length = 9 by rw [← hX]; rfl)
  have XO := Lib.hid (show ∀ u ∈ X, u.oneCell' = true by rw [← hX]; exact kcells_one m T tc S sc)
  have Xk := Lib.hid (show X[0]? = some (.int .i64 m.kd) by rw [← hX]; rfl)
  obtain ⟨kd, hkd⟩ : ∃ k, m.kd = k := ⟨_, rfl⟩
  have HKD := Lib.hid hkd
  rw [hkd] at Xk
  have B0 := Lib.hid (CB.new w 59 X)
  have G0 := Lib.hid (grown_alloc w (.cells X.toArray 59) none)
  rw [hX]
  have HG := Lib.hid hg
  have HOK := Lib.hid ho
  have HC := Lib.hid (show m.c.size ≤ 1000000 by have := greatK_lens hg; omega)
  have HS := Lib.hid (show m.s.size ≤ 1000000 by have := greatK_lens hg; omega)
  obtain ⟨M, hMM⟩ : ∃ M, { m with s := ⟨#[97, 64, 82]⟩ } = M := ⟨_, rfl⟩
  obtain ⟨ct, hct⟩ : ∃ b, (tagsK kd).contains 33 = b := ⟨_, rfl⟩
  have HCT := Lib.hid hct
  have HO2 := Lib.hid (show okK M = ct by rw [← hMM, okK_with_s ho, hkd, hct])
  have HN2 := Lib.hid (show M.no < 18446744073709551616 by rw [← hMM]; exact hn)
  have HC2 := Lib.hid (show M.c.size ≤ 1000000 by rw [← hMM]; exact HC.out)
  have HS2 := Lib.hid (show M.s.size ≤ 1000000 by rw [← hMM]; show (⟨#[97, 64, 82]⟩ : ByteArray).size ≤ 1000000; decide)
  have XLT := Lib.hid (show 2 < X.length by rw [XL.out]; omega)
  have HXS := Lib.hid (show X.set 2 (.string ⟨#[97, 64, 82]⟩) = kcells M T tc S sc by rw [← hX, ← hMM]; rfl)
  have HMT := Lib.hid (show M.t = m.t ∧ M.sl = m.sl by rw [← hMM]; exact ⟨rfl, rfl⟩)
  clear hM hk hn hX hg ho hkd hMM hct
  go_enter Tryd.func11, Tryd.ntmps11
  go_wp2_with (first
    | (refine wpList_storeC (off := 2) (p := [.string ⟨#[97, 64, 82]⟩]) (by kernel_rfl) rfl (.tmp 26) (.const (.string ⟨#[97, 64, 82]⟩)) rfl (.string ⟨#[97, 64, 82]⟩) rfl (fun u hu => by rw [List.mem_singleton.1 hu]; rfl) C4.out rfl XLT.out (by first | rfl | go_simp) rfl ?_; intro w5 h5 g5; rw [over_one _ _ _ XLT.out, HXS.out] at h5; have C5 := Lib.hid h5; have GH := Lib.hid (none_new GG.out g5 (Nat.le_refl _)); have G5 := Lib.hid (grown_trans' G3.out GH.out); have B5 := Lib.hid (B3.out.kept GH.out); clear h5 g5)
    | (go_at_call 29; refine (kspeaks_any _ (HM.out.below (below_of_none G0.out))).mono ?_; rintro e w1 ⟨rfl, g⟩; have G1 := Lib.hid (grown_trans' G0.out g); have B1 := Lib.hid (B0.out.kept g); clear g)
    | refine wpList_loadC (off := 0) (p := X) aggKm rfl (.tmp 2) rfl B1.out (by rw [List.drop_zero]; exact List.take_of_length_le (by rw [XL.out]; exact Nat.le_refl _)) (by rw [XL.out]; omega) (by first | rfl | go_simp) ?_
    | (go_at_call 30; rw [← HX.out]; refine (great_k m T tc S sc _).mono ?_; rw [HX.out, HG.out]; rintro e w2 ⟨rfl, g⟩; have G2 := Lib.hid (grown_trans' G1.out g); have B2 := Lib.hid (B1.out.kept g); clear g)
    | refine wpList_loadCg (off := 0) (p := X) aggKm (by first | rfl | go_simp) (.tmp 2) rfl B2.out (by rw [List.drop_zero]; exact List.take_of_length_le (by rw [XL.out]; exact Nat.le_refl _)) (by rw [XL.out]; omega) (by first | rfl | go_simp) ?_
    | (go_at_call 33; rw [← HX.out]; refine (check_k m T tc S sc w.heap.size _ (HM.out.below (below_of_none G2.out)) (HK.out.kept G2.out (Nat.le_refl _)) G2.out.size HN.out HC.out HS.out).mono ?_; rw [HX.out, HOK.out, if_pos rfl]; rintro e w3 ⟨rfl, g⟩; have G3 := Lib.hid (grown_trans' G2.out g); have B3 := Lib.hid (B2.out.kept g); clear g)
    | refine wpList_loadC (off := 0) (p := X) aggKm rfl (.tmp 2) rfl B3.out (by rw [List.drop_zero]; exact List.take_of_length_le (by rw [XL.out]; exact Nat.le_refl _)) (by rw [XL.out]; omega) (by first | rfl | go_simp) ?_
    | refine wpList_allocC zeroKm rfl rfl ?_
    | (refine wpList_storeC (off := 0) (p := X) aggKm.hi rfl (.tmp 5) (.tmp 16) rfl (.agg X.toArray) rfl XO.out (CB.new w3 59 (kcells mZ9 none 0 none 0)) XL.out (by rw [kcells_length]; omega) (by first | rfl | go_simp) rfl ?_; intro w4 h4 g4; rw [over_all _ _ (by rw [XL.out]; exact Nat.le_refl _)] at h4; have C4 := Lib.hid h4; have GG := Lib.hid (none_new (grown_alloc w3 (.cells (kcells mZ9 none 0 none 0).toArray 59) none) g4 (Nat.le_refl _)); have G4 := Lib.hid (grown_trans' G3.out GG.out); have B4 := Lib.hid (B3.out.kept GG.out); clear h4 g4))
  obtain ⟨T2, tc2, S2, sc2, hkk⟩ : ∃ T2 tc2 S2 sc2, kcells M T2 tc2 S2 sc2 = kcells M T tc S sc ∧ KM w5.drew w5.drew.heap.size M T2 tc2 S2 sc2 := ⟨T, tc, S, sc, rfl, ⟨by rw [HMT.out.1]; exact (HK.out.1.kept G5.out (Nat.le_refl _)).more G5.out.size, by rw [HMT.out.2]; exact (HK.out.2.kept G5.out (Nat.le_refl _)).more G5.out.size⟩⟩
  obtain ⟨X2, hX2⟩ : ∃ X, kcells M T2 tc2 S2 sc2 = X := ⟨_, rfl⟩
  have HX2 := Lib.hid hX2
  have X2L := Lib.hid (show X2.length = 9 by rw [← hX2]; rfl)
  have HKM := Lib.hid hkk.2
  have D5 := Lib.hid (show CB w5.drew w3.heap.size 59 X2 by rw [← hX2, hkk.1]; exact C5.out)
  have DB := Lib.hid (show CB w5.drew w.heap.size 59 X from B5.out)
  have GD := Lib.hid (grown_drew G5.out)
  clear hkk hX2
  refine heldb_begin w5.drew.heap.size (by kernel_rfl) (fun hS1 => ?_)
  have GZ := Lib.hid (World.grownBy.refl w5.drew none)
  generalize w5.drew = wd at *
  cases ct with
  | true =>
    refine heldb_take (i := 0) (d := some 46) (v := ?vqr33z22x1) (by assumption) rfl rfl (by kernel_rfl) (fun _ _ _ h => h) ?yqr33z22x1 ?_; case yqr33z22x1 => (refine Or.inl ⟨rfl, fun wx hS => ?_⟩; go_simp; try with_reducible rfl)
    try simp only [Act.put, List.setIfInBounds_toArray, List.set_cons_zero, List.set_cons_succ]
    refine heldb_take (i := 1) (d := some 47) (v := ?vqr33z22x2) (by assumption) rfl rfl (by kernel_rfl) (fun _ _ _ h => h) ?yqr33z22x2 ?_; case yqr33z22x2 => (refine Or.inl ⟨rfl, fun wx hS => ?_⟩; go_simp; try with_reducible rfl)
    try simp only [Act.put, List.setIfInBounds_toArray, List.set_cons_zero, List.set_cons_succ]
    refine heldb_take (i := 2) (d := some 48) (v := ?vqr33z22x3) (by assumption) rfl rfl (by kernel_rfl) (fun _ _ _ h => h) ?yqr33z22x3 ?_; case yqr33z22x3 => (refine Or.inl ⟨rfl, fun wx hS => ?_⟩; go_simp; try with_reducible rfl)
    try simp only [Act.put, List.setIfInBounds_toArray, List.set_cons_zero, List.set_cons_succ]
    refine heldb_take (i := 3) (d := some 49) (v := _) (by assumption) rfl rfl (by kernel_rfl) (fun _ _ _ h => h) (yields_loadC (p := X2) (off := 0) aggKm (.tmp 5) rfl rfl (fun wx hx => D5.out.below hx D5.out.lt) (by rw [List.drop_zero]; exact List.take_of_length_le (by rw [X2L.out]; exact Nat.le_refl _)) (by rw [X2L.out]; omega) rfl) ?_
    try simp only [Act.put, List.setIfInBounds_toArray, List.set_cons_zero, List.set_cons_succ]
    first | refine heldb_skip (i := 6) (d := some 52) (by assumption) rfl rfl (by kernel_rfl) (fun _ _ _ h => h) rfl ?_ | (refine heldb_take (i := 6) (d := some 52) (v := ?vqr33z22x5) (by assumption) rfl rfl (by kernel_rfl) (fun _ _ _ h => h) ?yqr33z22x5 ?_; case yqr33z22x5 => (refine Or.inl ⟨rfl, fun wx hS => ?_⟩; go_simp; try with_reducible rfl))
    try simp only [Act.put, List.setIfInBounds_toArray, List.set_cons_zero, List.set_cons_succ]
    refine heldb_take (i := 7) (d := some 53) (v := _) (by assumption) rfl rfl (by kernel_rfl) (fun _ _ _ h => h) (yields_cell1 (by intro w; kernel_rfl) (.tmp 52) rfl rfl (ad := ⟨w.heap.size, 0, none⟩) (v := .int .i64 kd) (fun wx hx => (hx.cell (p := ⟨w.heap.size, 0, none⟩) DB.out.lt).trans (DB.out.at_ Xk.out)) rfl) ?_
    try simp only [Act.put, List.setIfInBounds_toArray, List.set_cons_zero, List.set_cons_succ]
    first | refine heldb_skip (i := 8) (d := some 54) (by assumption) rfl rfl (by kernel_rfl) (fun _ _ _ h => h) rfl ?_ | (refine heldb_take (i := 8) (d := some 54) (v := ?vqr33z22x7) (by assumption) rfl rfl (by kernel_rfl) (fun _ _ _ h => h) ?yqr33z22x7 ?_; case yqr33z22x7 => (refine Or.inl ⟨rfl, fun wx hS => ?_⟩; go_simp; try with_reducible rfl))
    try simp only [Act.put, List.setIfInBounds_toArray, List.set_cons_zero, List.set_cons_succ]
    refine heldb_one (i := 4) rfl (by kernel_rfl) rfl (fun K hK => ?_)
    go_simp
    rw [← HX2.out]
    refine (check_k M T2 tc2 S2 sc2 wd.heap.size _ (HM.out.below (below_of_none (grown_trans' GD.out GZ.out))) (HKM.out.kept GZ.out (Nat.le_refl _)) GZ.out.size HN2.out HC2.out HS2.out).mono ?_
    rw [HX2.out, HO2.out, if_pos rfl]
    rintro e wr33z22x8 ⟨rfl, gr33z22x9⟩
    have Gr33z22x10 := Lib.hid (grown_trans' GZ.out gr33z22x9)
    have hb := below_of_none Gr33z22x10.out
    refine hK.out _ _ hb (fun hSr33z22x11 => ?_)
    clear hb hK K
    try simp only [Act.put, List.setIfInBounds_toArray, List.set_cons_zero, List.set_cons_succ]
    clear gr33z22x9
    first | refine heldb_skip (i := 5) (d := some 51) (by assumption) rfl rfl (by kernel_rfl) (fun _ _ _ h => h) rfl ?_ | (refine heldb_take (i := 5) (d := some 51) (v := ?vqr33z22x12) (by assumption) rfl rfl (by kernel_rfl) (fun _ _ _ h => h) ?yqr33z22x12 ?_; case yqr33z22x12 => (refine Or.inl ⟨rfl, fun wx hS => ?_⟩; go_simp; try with_reducible rfl))
    try simp only [Act.put, List.setIfInBounds_toArray, List.set_cons_zero, List.set_cons_succ]
    refine heldb_one (i := 9) rfl (by kernel_rfl) rfl (fun K hK => ?_)
    go_simp
    refine (refHas_any kd 33 _).mono ?_
    rintro e wr33z22x13 ⟨rfl, gr33z22x14⟩
    rw [HCT.out]
    have Gr33z22x15 := Lib.hid (grown_trans' Gr33z22x10.out gr33z22x14)
    have hb := below_of_none Gr33z22x15.out
    refine hK.out _ _ hb (fun hSr33z22x16 => ?_)
    clear hb hK K
    try simp only [Act.put, List.setIfInBounds_toArray, List.set_cons_zero, List.set_cons_succ]
    clear gr33z22x14
    first | refine heldb_skip (i := 10) (d := some 56) (by assumption) rfl rfl (by kernel_rfl) (fun _ _ _ h => h) rfl ?_ | (refine heldb_take (i := 10) (d := some 56) (v := ?vqr33z22x17) (by assumption) rfl rfl (by kernel_rfl) (fun _ _ _ h => h) ?yqr33z22x17 ?_; case yqr33z22x17 => (refine Or.inl ⟨rfl, fun wx hS => ?_⟩; go_simp; try with_reducible rfl))
    try simp only [Act.put, List.setIfInBounds_toArray, List.set_cons_zero, List.set_cons_succ]
    refine heldb_take (i := 11) (d := some 57) (v := ?vqr33z22x18) (by assumption) rfl rfl (by kernel_rfl) (fun _ _ _ h => h) ?yqr33z22x18 ?_; case yqr33z22x18 => (refine Or.inl ⟨rfl, fun wx hS => ?_⟩; go_simp; try with_reducible rfl)
    try simp only [Act.put, List.setIfInBounds_toArray, List.set_cons_zero, List.set_cons_succ]
    refine heldb_take (i := 12) (d := some 4) (v := ?vqr33z22x19) (by assumption) rfl rfl (by kernel_rfl) (fun _ _ _ h => h) ?yqr33z22x19 ?_; case yqr33z22x19 => (refine Or.inl ⟨rfl, fun wx hS => ?_⟩; go_simp; try with_reducible rfl)
    try simp only [Act.put, List.setIfInBounds_toArray, List.set_cons_zero, List.set_cons_succ]
    refine held_end (by kernel_rfl) ?_ _
    go_wp2
    go_ret
    exact ⟨rfl, below_of_none (grown_trans' GD.out Gr33z22x15.out)⟩
  | false =>
    refine heldb_take (i := 0) (d := some 46) (v := ?vqr133z22x1) (by assumption) rfl rfl (by kernel_rfl) (fun _ _ _ h => h) ?yqr133z22x1 ?_; case yqr133z22x1 => (refine Or.inl ⟨rfl, fun wx hS => ?_⟩; go_simp; try with_reducible rfl)
    try simp only [Act.put, List.setIfInBounds_toArray, List.set_cons_zero, List.set_cons_succ]
    refine heldb_take (i := 1) (d := some 47) (v := ?vqr133z22x2) (by assumption) rfl rfl (by kernel_rfl) (fun _ _ _ h => h) ?yqr133z22x2 ?_; case yqr133z22x2 => (refine Or.inl ⟨rfl, fun wx hS => ?_⟩; go_simp; try with_reducible rfl)
    try simp only [Act.put, List.setIfInBounds_toArray, List.set_cons_zero, List.set_cons_succ]
    refine heldb_take (i := 2) (d := some 48) (v := ?vqr133z22x3) (by assumption) rfl rfl (by kernel_rfl) (fun _ _ _ h => h) ?yqr133z22x3 ?_; case yqr133z22x3 => (refine Or.inl ⟨rfl, fun wx hS => ?_⟩; go_simp; try with_reducible rfl)
    try simp only [Act.put, List.setIfInBounds_toArray, List.set_cons_zero, List.set_cons_succ]
    refine heldb_take (i := 3) (d := some 49) (v := _) (by assumption) rfl rfl (by kernel_rfl) (fun _ _ _ h => h) (yields_loadC (p := X2) (off := 0) aggKm (.tmp 5) rfl rfl (fun wx hx => D5.out.below hx D5.out.lt) (by rw [List.drop_zero]; exact List.take_of_length_le (by rw [X2L.out]; exact Nat.le_refl _)) (by rw [X2L.out]; omega) rfl) ?_
    try simp only [Act.put, List.setIfInBounds_toArray, List.set_cons_zero, List.set_cons_succ]
    first | refine heldb_skip (i := 6) (d := some 52) (by assumption) rfl rfl (by kernel_rfl) (fun _ _ _ h => h) rfl ?_ | (refine heldb_take (i := 6) (d := some 52) (v := ?vqr133z22x5) (by assumption) rfl rfl (by kernel_rfl) (fun _ _ _ h => h) ?yqr133z22x5 ?_; case yqr133z22x5 => (refine Or.inl ⟨rfl, fun wx hS => ?_⟩; go_simp; try with_reducible rfl))
    try simp only [Act.put, List.setIfInBounds_toArray, List.set_cons_zero, List.set_cons_succ]
    refine heldb_take (i := 7) (d := some 53) (v := _) (by assumption) rfl rfl (by kernel_rfl) (fun _ _ _ h => h) (yields_cell1 (by intro w; kernel_rfl) (.tmp 52) rfl rfl (ad := ⟨w.heap.size, 0, none⟩) (v := .int .i64 kd) (fun wx hx => (hx.cell (p := ⟨w.heap.size, 0, none⟩) DB.out.lt).trans (DB.out.at_ Xk.out)) rfl) ?_
    try simp only [Act.put, List.setIfInBounds_toArray, List.set_cons_zero, List.set_cons_succ]
    first | refine heldb_skip (i := 8) (d := some 54) (by assumption) rfl rfl (by kernel_rfl) (fun _ _ _ h => h) rfl ?_ | (refine heldb_take (i := 8) (d := some 54) (v := ?vqr133z22x7) (by assumption) rfl rfl (by kernel_rfl) (fun _ _ _ h => h) ?yqr133z22x7 ?_; case yqr133z22x7 => (refine Or.inl ⟨rfl, fun wx hS => ?_⟩; go_simp; try with_reducible rfl))
    try simp only [Act.put, List.setIfInBounds_toArray, List.set_cons_zero, List.set_cons_succ]
    refine heldb_one (i := 4) rfl (by kernel_rfl) rfl (fun K hK => ?_)
    go_simp
    rw [← HX2.out]
    refine (check_k M T2 tc2 S2 sc2 wd.heap.size _ (HM.out.below (below_of_none (grown_trans' GD.out GZ.out))) (HKM.out.kept GZ.out (Nat.le_refl _)) GZ.out.size HN2.out HC2.out HS2.out).mono ?_
    rw [HX2.out, HO2.out, if_neg (by simp)]
    rintro e wr133z22x8 ⟨rfl, gr133z22x9⟩
    have Gr133z22x10 := Lib.hid (grown_trans' GZ.out gr133z22x9)
    have hb := below_of_none Gr133z22x10.out
    refine hK.out _ _ hb (fun hSr133z22x11 => ?_)
    clear hb hK K
    try simp only [Act.put, List.setIfInBounds_toArray, List.set_cons_zero, List.set_cons_succ]
    clear gr133z22x9
    first | refine heldb_skip (i := 5) (d := some 51) (by assumption) rfl rfl (by kernel_rfl) (fun _ _ _ h => h) rfl ?_ | (refine heldb_take (i := 5) (d := some 51) (v := ?vqr133z22x12) (by assumption) rfl rfl (by kernel_rfl) (fun _ _ _ h => h) ?yqr133z22x12 ?_; case yqr133z22x12 => (refine Or.inl ⟨rfl, fun wx hS => ?_⟩; go_simp; try with_reducible rfl))
    try simp only [Act.put, List.setIfInBounds_toArray, List.set_cons_zero, List.set_cons_succ]
    refine heldb_one (i := 9) rfl (by kernel_rfl) rfl (fun K hK => ?_)
    go_simp
    refine (refHas_any kd 33 _).mono ?_
    rintro e wr133z22x13 ⟨rfl, gr133z22x14⟩
    rw [HCT.out]
    have Gr133z22x15 := Lib.hid (grown_trans' Gr133z22x10.out gr133z22x14)
    have hb := below_of_none Gr133z22x15.out
    refine hK.out _ _ hb (fun hSr133z22x16 => ?_)
    clear hb hK K
    try simp only [Act.put, List.setIfInBounds_toArray, List.set_cons_zero, List.set_cons_succ]
    clear gr133z22x14
    first | refine heldb_skip (i := 10) (d := some 56) (by assumption) rfl rfl (by kernel_rfl) (fun _ _ _ h => h) rfl ?_ | (refine heldb_take (i := 10) (d := some 56) (v := ?vqr133z22x17) (by assumption) rfl rfl (by kernel_rfl) (fun _ _ _ h => h) ?yqr133z22x17 ?_; case yqr133z22x17 => (refine Or.inl ⟨rfl, fun wx hS => ?_⟩; go_simp; try with_reducible rfl))
    try simp only [Act.put, List.setIfInBounds_toArray, List.set_cons_zero, List.set_cons_succ]
    refine heldb_take (i := 11) (d := some 57) (v := ?vqr133z22x18) (by assumption) rfl rfl (by kernel_rfl) (fun _ _ _ h => h) ?yqr133z22x18 ?_; case yqr133z22x18 => (refine Or.inl ⟨rfl, fun wx hS => ?_⟩; go_simp; try with_reducible rfl)
    try simp only [Act.put, List.setIfInBounds_toArray, List.set_cons_zero, List.set_cons_succ]
    refine heldb_take (i := 12) (d := some 4) (v := ?vqr133z22x19) (by assumption) rfl rfl (by kernel_rfl) (fun _ _ _ h => h) ?yqr133z22x19 ?_; case yqr133z22x19 => (refine Or.inl ⟨rfl, fun wx hS => ?_⟩; go_simp; try with_reducible rfl)
    try simp only [Act.put, List.setIfInBounds_toArray, List.set_cons_zero, List.set_cons_succ]
    refine held_end (by kernel_rfl) ?_ _
    go_wp2
    go_ret
    exact ⟨rfl, below_of_none (grown_trans' GD.out Gr133z22x15.out)⟩
set_option maxRecDepth 100000 in
set_option maxHeartbeats 4000000 in
theorem bare_34 (w : World) (hM : ML w) (m : Msg) (T : Option Addr) (tc : Nat) (S : Option Addr) (sc : Nat) (hk : KM w w.heap.size m T tc S sc) (hn : m.no < 18446744073709551616) (other : Int) (hg : greatK m = false) (ho : okK m = true) (hj : bits .and .i64 other 7 = 2) :
    Calls Tryd.prog 11 #[.agg (kcells m T tc S sc).toArray, .int .i64 other] w fun e w' => e = .returned (.bool true) ∧ Below w.heap.size w w' := by
  have HM := Lib.hid hM
  have HK := Lib.hid hk
  have HN := Lib.hid hn
  obtain ⟨X, hX⟩ : ∃ X, kcells m T tc S sc = X := ⟨_, rfl⟩
  have HX := Lib.hid hX
  have XL := Lib.hid (show X.length = 9 by rw [← hX]; rfl)
  have XO := Lib.hid (show ∀ u ∈ X, u.oneCell' = true by rw [← hX]; exact kcells_one m T tc S sc)
  have Xk := Lib.hid (show X[0]? = some (.int .i64 m.kd) by rw [← hX]; rfl)
  obtain ⟨kd, hkd⟩ : ∃ k, m.kd = k := ⟨_, rfl⟩
  have HKD := Lib.hid hkd
  rw [hkd] at Xk
  have B0 := Lib.hid (CB.new w 59 X)
  have G0 := Lib.hid (grown_alloc w (.cells X.toArray 59) none)
  rw [hX]
  have HG := Lib.hid hg
  have HOK := Lib.hid ho
  have HC := Lib.hid (show m.c.size ≤ 1000000 by have := greatK_lens hg; omega)
  have HS := Lib.hid (show m.s.size ≤ 1000000 by have := greatK_lens hg; omega)
  clear hM hk hn hX hg ho hkd
  go_enter Tryd.func11, Tryd.ntmps11
  go_wp2_with (first
    | (go_at_call 29; refine (kspeaks_any _ (HM.out.below (below_of_none G0.out))).mono ?_; rintro e w1 ⟨rfl, g⟩; have G1 := Lib.hid (grown_trans' G0.out g); have B1 := Lib.hid (B0.out.kept g); clear g)
    | refine wpList_loadC (off := 0) (p := X) aggKm rfl (.tmp 2) rfl B1.out (by rw [List.drop_zero]; exact List.take_of_length_le (by rw [XL.out]; exact Nat.le_refl _)) (by rw [XL.out]; omega) (by first | rfl | go_simp) ?_
    | (go_at_call 30; rw [← HX.out]; refine (great_k m T tc S sc _).mono ?_; rw [HX.out, HG.out]; rintro e w2 ⟨rfl, g⟩; have G2 := Lib.hid (grown_trans' G1.out g); have B2 := Lib.hid (B1.out.kept g); clear g)
    | refine wpList_loadCg (off := 0) (p := X) aggKm (by first | rfl | go_simp) (.tmp 2) rfl B2.out (by rw [List.drop_zero]; exact List.take_of_length_le (by rw [XL.out]; exact Nat.le_refl _)) (by rw [XL.out]; omega) (by first | rfl | go_simp) ?_
    | (go_at_call 33; rw [← HX.out]; refine (check_k m T tc S sc w.heap.size _ (HM.out.below (below_of_none G2.out)) (HK.out.kept G2.out (Nat.le_refl _)) G2.out.size HN.out HC.out HS.out).mono ?_; rw [HX.out, HOK.out, if_pos rfl]; rintro e w3 ⟨rfl, g⟩; have G3 := Lib.hid (grown_trans' G2.out g); have B3 := Lib.hid (B2.out.kept g); clear g)
    | refine wpList_loadC (off := 0) (p := X) aggKm rfl (.tmp 2) rfl B3.out (by rw [List.drop_zero]; exact List.take_of_length_le (by rw [XL.out]; exact Nat.le_refl _)) (by rw [XL.out]; omega) (by first | rfl | go_simp) ?_
    | refine wpList_allocC zeroKm rfl rfl ?_
    | (refine wpList_storeC (off := 0) (p := X) aggKm.hi rfl (.tmp 5) (.tmp 16) rfl (.agg X.toArray) rfl XO.out (CB.new w3 59 (kcells mZ9 none 0 none 0)) XL.out (by rw [kcells_length]; omega) (by first | rfl | go_simp) rfl ?_; intro w4 h4 g4; rw [over_all _ _ (by rw [XL.out]; exact Nat.le_refl _)] at h4; have C4 := Lib.hid h4; have GG := Lib.hid (none_new (grown_alloc w3 (.cells (kcells mZ9 none 0 none 0).toArray 59) none) g4 (Nat.le_refl _)); have G4 := Lib.hid (grown_trans' G3.out GG.out); have B4 := Lib.hid (B3.out.kept GG.out); clear h4 g4))
  have GD := Lib.hid (grown_drew G4.out)
  refine heldb_begin w4.drew.heap.size (by kernel_rfl) (fun hS1 => ?_)
  have GZ := Lib.hid (World.grownBy.refl w4.drew none)
  generalize w4.drew = wd at *
  refine heldb_take (i := 0) (d := some 46) (v := ?vqr34z22x1) (by assumption) rfl rfl (by kernel_rfl) (fun _ _ _ h => h) ?yqr34z22x1 ?_; case yqr34z22x1 => (refine Or.inl ⟨rfl, fun wx hS => ?_⟩; go_simp; try with_reducible rfl)
  try simp only [Act.put, List.setIfInBounds_toArray, List.set_cons_zero, List.set_cons_succ]
  refine heldb_take (i := 1) (d := some 47) (v := ?vqr34z22x2) (by assumption) rfl rfl (by kernel_rfl) (fun _ _ _ h => h) ?yqr34z22x2 ?_; case yqr34z22x2 => (refine Or.inl ⟨rfl, fun wx hS => ?_⟩; go_simp; try with_reducible rfl)
  try simp only [Act.put, List.setIfInBounds_toArray, List.set_cons_zero, List.set_cons_succ]
  refine heldb_take (i := 2) (d := some 48) (v := ?vqr34z22x3) (by assumption) rfl rfl (by kernel_rfl) (fun _ _ _ h => h) ?yqr34z22x3 ?_; case yqr34z22x3 => (refine Or.inl ⟨rfl, fun wx hS => ?_⟩; go_simp; try with_reducible rfl)
  try simp only [Act.put, List.setIfInBounds_toArray, List.set_cons_zero, List.set_cons_succ]
  first | refine heldb_skip (i := 3) (d := some 49) (by assumption) rfl rfl (by kernel_rfl) (fun _ _ _ h => h) rfl ?_ | (refine heldb_take (i := 3) (d := some 49) (v := ?vqr34z22x4) (by assumption) rfl rfl (by kernel_rfl) (fun _ _ _ h => h) ?yqr34z22x4 ?_; case yqr34z22x4 => (refine Or.inl ⟨rfl, fun wx hS => ?_⟩; go_simp; try with_reducible rfl))
  try simp only [Act.put, List.setIfInBounds_toArray, List.set_cons_zero, List.set_cons_succ]
  first | refine heldb_skip (i := 4) (d := some 50) (by assumption) rfl rfl (by kernel_rfl) (fun _ _ _ h => h) rfl ?_ | (refine heldb_take (i := 4) (d := some 50) (v := ?vqr34z22x5) (by assumption) rfl rfl (by kernel_rfl) (fun _ _ _ h => h) ?yqr34z22x5 ?_; case yqr34z22x5 => (refine Or.inl ⟨rfl, fun wx hS => ?_⟩; go_simp; try with_reducible rfl))
  try simp only [Act.put, List.setIfInBounds_toArray, List.set_cons_zero, List.set_cons_succ]
  first | refine heldb_skip (i := 5) (d := some 51) (by assumption) rfl rfl (by kernel_rfl) (fun _ _ _ h => h) rfl ?_ | (refine heldb_take (i := 5) (d := some 51) (v := ?vqr34z22x6) (by assumption) rfl rfl (by kernel_rfl) (fun _ _ _ h => h) ?yqr34z22x6 ?_; case yqr34z22x6 => (refine Or.inl ⟨rfl, fun wx hS => ?_⟩; go_simp; try with_reducible rfl))
  try simp only [Act.put, List.setIfInBounds_toArray, List.set_cons_zero, List.set_cons_succ]
  first | refine heldb_skip (i := 6) (d := some 52) (by assumption) rfl rfl (by kernel_rfl) (fun _ _ _ h => h) rfl ?_ | (refine heldb_take (i := 6) (d := some 52) (v := ?vqr34z22x7) (by assumption) rfl rfl (by kernel_rfl) (fun _ _ _ h => h) ?yqr34z22x7 ?_; case yqr34z22x7 => (refine Or.inl ⟨rfl, fun wx hS => ?_⟩; go_simp; try with_reducible rfl))
  try simp only [Act.put, List.setIfInBounds_toArray, List.set_cons_zero, List.set_cons_succ]
  first | refine heldb_skip (i := 7) (d := some 53) (by assumption) rfl rfl (by kernel_rfl) (fun _ _ _ h => h) rfl ?_ | (refine heldb_take (i := 7) (d := some 53) (v := ?vqr34z22x8) (by assumption) rfl rfl (by kernel_rfl) (fun _ _ _ h => h) ?yqr34z22x8 ?_; case yqr34z22x8 => (refine Or.inl ⟨rfl, fun wx hS => ?_⟩; go_simp; try with_reducible rfl))
  try simp only [Act.put, List.setIfInBounds_toArray, List.set_cons_zero, List.set_cons_succ]
  first | refine heldb_skip (i := 8) (d := some 54) (by assumption) rfl rfl (by kernel_rfl) (fun _ _ _ h => h) rfl ?_ | (refine heldb_take (i := 8) (d := some 54) (v := ?vqr34z22x9) (by assumption) rfl rfl (by kernel_rfl) (fun _ _ _ h => h) ?yqr34z22x9 ?_; case yqr34z22x9 => (refine Or.inl ⟨rfl, fun wx hS => ?_⟩; go_simp; try with_reducible rfl))
  try simp only [Act.put, List.setIfInBounds_toArray, List.set_cons_zero, List.set_cons_succ]
  first | refine heldb_skip (i := 9) (d := some 55) (by assumption) rfl rfl (by kernel_rfl) (fun _ _ _ h => h) rfl ?_ | (refine heldb_take (i := 9) (d := some 55) (v := ?vqr34z22x10) (by assumption) rfl rfl (by kernel_rfl) (fun _ _ _ h => h) ?yqr34z22x10 ?_; case yqr34z22x10 => (refine Or.inl ⟨rfl, fun wx hS => ?_⟩; go_simp; try with_reducible rfl))
  try simp only [Act.put, List.setIfInBounds_toArray, List.set_cons_zero, List.set_cons_succ]
  first | refine heldb_skip (i := 10) (d := some 56) (by assumption) rfl rfl (by kernel_rfl) (fun _ _ _ h => h) rfl ?_ | (refine heldb_take (i := 10) (d := some 56) (v := ?vqr34z22x11) (by assumption) rfl rfl (by kernel_rfl) (fun _ _ _ h => h) ?yqr34z22x11 ?_; case yqr34z22x11 => (refine Or.inl ⟨rfl, fun wx hS => ?_⟩; go_simp; try with_reducible rfl))
  try simp only [Act.put, List.setIfInBounds_toArray, List.set_cons_zero, List.set_cons_succ]
  refine heldb_take (i := 11) (d := some 57) (v := ?vqr34z22x12) (by assumption) rfl rfl (by kernel_rfl) (fun _ _ _ h => h) ?yqr34z22x12 ?_; case yqr34z22x12 => (refine Or.inl ⟨rfl, fun wx hS => ?_⟩; go_simp; try with_reducible rfl)
  try simp only [Act.put, List.setIfInBounds_toArray, List.set_cons_zero, List.set_cons_succ]
  refine heldb_take (i := 12) (d := some 4) (v := ?vqr34z22x13) (by assumption) rfl rfl (by kernel_rfl) (fun _ _ _ h => h) ?yqr34z22x13 ?_; case yqr34z22x13 => (refine Or.inl ⟨rfl, fun wx hS => ?_⟩; go_simp; try with_reducible rfl)
  try simp only [Act.put, List.setIfInBounds_toArray, List.set_cons_zero, List.set_cons_succ]
  refine held_end (by kernel_rfl) ?_ _
  go_wp2
  go_ret
  exact ⟨rfl, below_of_none (grown_trans' GD.out GZ.out)⟩
set_option maxRecDepth 100000 in
set_option maxHeartbeats 4000000 in
theorem bare_35 (w : World) (hM : ML w) (m : Msg) (T : Option Addr) (tc : Nat) (S : Option Addr) (sc : Nat) (hk : KM w w.heap.size m T tc S sc) (hn : m.no < 18446744073709551616) (other : Int) (hg : greatK m = false) (ho : okK m = true) (hj : bits .and .i64 other 7 = 3) :
    Calls Tryd.prog 11 #[.agg (kcells m T tc S sc).toArray, .int .i64 other] w fun e w' => e = .returned (.bool true) ∧ Below w.heap.size w w' := by
  have HM := Lib.hid hM
  have HK := Lib.hid hk
  have HN := Lib.hid hn
  obtain ⟨X, hX⟩ : ∃ X, kcells m T tc S sc = X := ⟨_, rfl⟩
  have HX := Lib.hid hX
  have XL := Lib.hid (show X.length = 9 by rw [← hX]; rfl)
  have XO := Lib.hid (show ∀ u ∈ X, u.oneCell' = true by rw [← hX]; exact kcells_one m T tc S sc)
  have Xk := Lib.hid (show X[0]? = some (.int .i64 m.kd) by rw [← hX]; rfl)
  obtain ⟨kd, hkd⟩ : ∃ k, m.kd = k := ⟨_, rfl⟩
  have HKD := Lib.hid hkd
  rw [hkd] at Xk
  have B0 := Lib.hid (CB.new w 59 X)
  have G0 := Lib.hid (grown_alloc w (.cells X.toArray 59) none)
  rw [hX]
  have HG := Lib.hid hg
  have HOK := Lib.hid ho
  have HC := Lib.hid (show m.c.size ≤ 1000000 by have := greatK_lens hg; omega)
  have HS := Lib.hid (show m.s.size ≤ 1000000 by have := greatK_lens hg; omega)
  obtain ⟨M, hMM⟩ : ∃ M, { m with en := 1 } = M := ⟨_, rfl⟩
  obtain ⟨ct, hct⟩ : ∃ b, (tagsK kd).contains 35 = b := ⟨_, rfl⟩
  have HCT := Lib.hid hct
  have HO2 := Lib.hid (show okK M = ct by rw [← hMM, okK_with_en ho, hkd, hct])
  have HN2 := Lib.hid (show M.no < 18446744073709551616 by rw [← hMM]; exact hn)
  have HC2 := Lib.hid (show M.c.size ≤ 1000000 by rw [← hMM]; exact HC.out)
  have HS2 := Lib.hid (show M.s.size ≤ 1000000 by rw [← hMM]; exact HS.out)
  have XLT := Lib.hid (show 4 < X.length by rw [XL.out]; omega)
  have HXS := Lib.hid (show X.set 4 (.int .i64 1) = kcells M T tc S sc by rw [← hX, ← hMM]; rfl)
  have HMT := Lib.hid (show M.t = m.t ∧ M.sl = m.sl by rw [← hMM]; exact ⟨rfl, rfl⟩)
  clear hM hk hn hX hg ho hkd hMM hct
  go_enter Tryd.func11, Tryd.ntmps11
  go_wp2_with (first
    | (refine wpList_storeC (off := 4) (p := [.int .i64 1]) (by kernel_rfl) rfl (.tmp 29) (.const (.int .i64 1)) rfl (.int .i64 1) rfl (fun u hu => by rw [List.mem_singleton.1 hu]; rfl) C4.out rfl XLT.out (by first | rfl | go_simp) rfl ?_; intro w5 h5 g5; rw [over_one _ _ _ XLT.out, HXS.out] at h5; have C5 := Lib.hid h5; have GH := Lib.hid (none_new GG.out g5 (Nat.le_refl _)); have G5 := Lib.hid (grown_trans' G3.out GH.out); have B5 := Lib.hid (B3.out.kept GH.out); clear h5 g5)
    | (go_at_call 29; refine (kspeaks_any _ (HM.out.below (below_of_none G0.out))).mono ?_; rintro e w1 ⟨rfl, g⟩; have G1 := Lib.hid (grown_trans' G0.out g); have B1 := Lib.hid (B0.out.kept g); clear g)
    | refine wpList_loadC (off := 0) (p := X) aggKm rfl (.tmp 2) rfl B1.out (by rw [List.drop_zero]; exact List.take_of_length_le (by rw [XL.out]; exact Nat.le_refl _)) (by rw [XL.out]; omega) (by first | rfl | go_simp) ?_
    | (go_at_call 30; rw [← HX.out]; refine (great_k m T tc S sc _).mono ?_; rw [HX.out, HG.out]; rintro e w2 ⟨rfl, g⟩; have G2 := Lib.hid (grown_trans' G1.out g); have B2 := Lib.hid (B1.out.kept g); clear g)
    | refine wpList_loadCg (off := 0) (p := X) aggKm (by first | rfl | go_simp) (.tmp 2) rfl B2.out (by rw [List.drop_zero]; exact List.take_of_length_le (by rw [XL.out]; exact Nat.le_refl _)) (by rw [XL.out]; omega) (by first | rfl | go_simp) ?_
    | (go_at_call 33; rw [← HX.out]; refine (check_k m T tc S sc w.heap.size _ (HM.out.below (below_of_none G2.out)) (HK.out.kept G2.out (Nat.le_refl _)) G2.out.size HN.out HC.out HS.out).mono ?_; rw [HX.out, HOK.out, if_pos rfl]; rintro e w3 ⟨rfl, g⟩; have G3 := Lib.hid (grown_trans' G2.out g); have B3 := Lib.hid (B2.out.kept g); clear g)
    | refine wpList_loadC (off := 0) (p := X) aggKm rfl (.tmp 2) rfl B3.out (by rw [List.drop_zero]; exact List.take_of_length_le (by rw [XL.out]; exact Nat.le_refl _)) (by rw [XL.out]; omega) (by first | rfl | go_simp) ?_
    | refine wpList_allocC zeroKm rfl rfl ?_
    | (refine wpList_storeC (off := 0) (p := X) aggKm.hi rfl (.tmp 5) (.tmp 16) rfl (.agg X.toArray) rfl XO.out (CB.new w3 59 (kcells mZ9 none 0 none 0)) XL.out (by rw [kcells_length]; omega) (by first | rfl | go_simp) rfl ?_; intro w4 h4 g4; rw [over_all _ _ (by rw [XL.out]; exact Nat.le_refl _)] at h4; have C4 := Lib.hid h4; have GG := Lib.hid (none_new (grown_alloc w3 (.cells (kcells mZ9 none 0 none 0).toArray 59) none) g4 (Nat.le_refl _)); have G4 := Lib.hid (grown_trans' G3.out GG.out); have B4 := Lib.hid (B3.out.kept GG.out); clear h4 g4))
  obtain ⟨T2, tc2, S2, sc2, hkk⟩ : ∃ T2 tc2 S2 sc2, kcells M T2 tc2 S2 sc2 = kcells M T tc S sc ∧ KM w5.drew w5.drew.heap.size M T2 tc2 S2 sc2 := ⟨T, tc, S, sc, rfl, ⟨by rw [HMT.out.1]; exact (HK.out.1.kept G5.out (Nat.le_refl _)).more G5.out.size, by rw [HMT.out.2]; exact (HK.out.2.kept G5.out (Nat.le_refl _)).more G5.out.size⟩⟩
  obtain ⟨X2, hX2⟩ : ∃ X, kcells M T2 tc2 S2 sc2 = X := ⟨_, rfl⟩
  have HX2 := Lib.hid hX2
  have X2L := Lib.hid (show X2.length = 9 by rw [← hX2]; rfl)
  have HKM := Lib.hid hkk.2
  have D5 := Lib.hid (show CB w5.drew w3.heap.size 59 X2 by rw [← hX2, hkk.1]; exact C5.out)
  have DB := Lib.hid (show CB w5.drew w.heap.size 59 X from B5.out)
  have GD := Lib.hid (grown_drew G5.out)
  clear hkk hX2
  refine heldb_begin w5.drew.heap.size (by kernel_rfl) (fun hS1 => ?_)
  have GZ := Lib.hid (World.grownBy.refl w5.drew none)
  generalize w5.drew = wd at *
  cases ct with
  | true =>
    refine heldb_take (i := 0) (d := some 46) (v := ?vqr35z22x1) (by assumption) rfl rfl (by kernel_rfl) (fun _ _ _ h => h) ?yqr35z22x1 ?_; case yqr35z22x1 => (refine Or.inl ⟨rfl, fun wx hS => ?_⟩; go_simp; try with_reducible rfl)
    try simp only [Act.put, List.setIfInBounds_toArray, List.set_cons_zero, List.set_cons_succ]
    refine heldb_take (i := 1) (d := some 47) (v := ?vqr35z22x2) (by assumption) rfl rfl (by kernel_rfl) (fun _ _ _ h => h) ?yqr35z22x2 ?_; case yqr35z22x2 => (refine Or.inl ⟨rfl, fun wx hS => ?_⟩; go_simp; try with_reducible rfl)
    try simp only [Act.put, List.setIfInBounds_toArray, List.set_cons_zero, List.set_cons_succ]
    refine heldb_take (i := 2) (d := some 48) (v := ?vqr35z22x3) (by assumption) rfl rfl (by kernel_rfl) (fun _ _ _ h => h) ?yqr35z22x3 ?_; case yqr35z22x3 => (refine Or.inl ⟨rfl, fun wx hS => ?_⟩; go_simp; try with_reducible rfl)
    try simp only [Act.put, List.setIfInBounds_toArray, List.set_cons_zero, List.set_cons_succ]
    refine heldb_take (i := 3) (d := some 49) (v := _) (by assumption) rfl rfl (by kernel_rfl) (fun _ _ _ h => h) (yields_loadC (p := X2) (off := 0) aggKm (.tmp 5) rfl rfl (fun wx hx => D5.out.below hx D5.out.lt) (by rw [List.drop_zero]; exact List.take_of_length_le (by rw [X2L.out]; exact Nat.le_refl _)) (by rw [X2L.out]; omega) rfl) ?_
    try simp only [Act.put, List.setIfInBounds_toArray, List.set_cons_zero, List.set_cons_succ]
    first | refine heldb_skip (i := 6) (d := some 52) (by assumption) rfl rfl (by kernel_rfl) (fun _ _ _ h => h) rfl ?_ | (refine heldb_take (i := 6) (d := some 52) (v := ?vqr35z22x5) (by assumption) rfl rfl (by kernel_rfl) (fun _ _ _ h => h) ?yqr35z22x5 ?_; case yqr35z22x5 => (refine Or.inl ⟨rfl, fun wx hS => ?_⟩; go_simp; try with_reducible rfl))
    try simp only [Act.put, List.setIfInBounds_toArray, List.set_cons_zero, List.set_cons_succ]
    refine heldb_take (i := 7) (d := some 53) (v := _) (by assumption) rfl rfl (by kernel_rfl) (fun _ _ _ h => h) (yields_cell1 (by intro w; kernel_rfl) (.tmp 52) rfl rfl (ad := ⟨w.heap.size, 0, none⟩) (v := .int .i64 kd) (fun wx hx => (hx.cell (p := ⟨w.heap.size, 0, none⟩) DB.out.lt).trans (DB.out.at_ Xk.out)) rfl) ?_
    try simp only [Act.put, List.setIfInBounds_toArray, List.set_cons_zero, List.set_cons_succ]
    first | refine heldb_skip (i := 8) (d := some 54) (by assumption) rfl rfl (by kernel_rfl) (fun _ _ _ h => h) rfl ?_ | (refine heldb_take (i := 8) (d := some 54) (v := ?vqr35z22x7) (by assumption) rfl rfl (by kernel_rfl) (fun _ _ _ h => h) ?yqr35z22x7 ?_; case yqr35z22x7 => (refine Or.inl ⟨rfl, fun wx hS => ?_⟩; go_simp; try with_reducible rfl))
    try simp only [Act.put, List.setIfInBounds_toArray, List.set_cons_zero, List.set_cons_succ]
    refine heldb_one (i := 4) rfl (by kernel_rfl) rfl (fun K hK => ?_)
    go_simp
    rw [← HX2.out]
    refine (check_k M T2 tc2 S2 sc2 wd.heap.size _ (HM.out.below (below_of_none (grown_trans' GD.out GZ.out))) (HKM.out.kept GZ.out (Nat.le_refl _)) GZ.out.size HN2.out HC2.out HS2.out).mono ?_
    rw [HX2.out, HO2.out, if_pos rfl]
    rintro e wr35z22x8 ⟨rfl, gr35z22x9⟩
    have Gr35z22x10 := Lib.hid (grown_trans' GZ.out gr35z22x9)
    have hb := below_of_none Gr35z22x10.out
    refine hK.out _ _ hb (fun hSr35z22x11 => ?_)
    clear hb hK K
    try simp only [Act.put, List.setIfInBounds_toArray, List.set_cons_zero, List.set_cons_succ]
    clear gr35z22x9
    first | refine heldb_skip (i := 5) (d := some 51) (by assumption) rfl rfl (by kernel_rfl) (fun _ _ _ h => h) rfl ?_ | (refine heldb_take (i := 5) (d := some 51) (v := ?vqr35z22x12) (by assumption) rfl rfl (by kernel_rfl) (fun _ _ _ h => h) ?yqr35z22x12 ?_; case yqr35z22x12 => (refine Or.inl ⟨rfl, fun wx hS => ?_⟩; go_simp; try with_reducible rfl))
    try simp only [Act.put, List.setIfInBounds_toArray, List.set_cons_zero, List.set_cons_succ]
    refine heldb_one (i := 9) rfl (by kernel_rfl) rfl (fun K hK => ?_)
    go_simp
    refine (refHas_any kd 35 _).mono ?_
    rintro e wr35z22x13 ⟨rfl, gr35z22x14⟩
    rw [HCT.out]
    have Gr35z22x15 := Lib.hid (grown_trans' Gr35z22x10.out gr35z22x14)
    have hb := below_of_none Gr35z22x15.out
    refine hK.out _ _ hb (fun hSr35z22x16 => ?_)
    clear hb hK K
    try simp only [Act.put, List.setIfInBounds_toArray, List.set_cons_zero, List.set_cons_succ]
    clear gr35z22x14
    first | refine heldb_skip (i := 10) (d := some 56) (by assumption) rfl rfl (by kernel_rfl) (fun _ _ _ h => h) rfl ?_ | (refine heldb_take (i := 10) (d := some 56) (v := ?vqr35z22x17) (by assumption) rfl rfl (by kernel_rfl) (fun _ _ _ h => h) ?yqr35z22x17 ?_; case yqr35z22x17 => (refine Or.inl ⟨rfl, fun wx hS => ?_⟩; go_simp; try with_reducible rfl))
    try simp only [Act.put, List.setIfInBounds_toArray, List.set_cons_zero, List.set_cons_succ]
    refine heldb_take (i := 11) (d := some 57) (v := ?vqr35z22x18) (by assumption) rfl rfl (by kernel_rfl) (fun _ _ _ h => h) ?yqr35z22x18 ?_; case yqr35z22x18 => (refine Or.inl ⟨rfl, fun wx hS => ?_⟩; go_simp; try with_reducible rfl)
    try simp only [Act.put, List.setIfInBounds_toArray, List.set_cons_zero, List.set_cons_succ]
    refine heldb_take (i := 12) (d := some 4) (v := ?vqr35z22x19) (by assumption) rfl rfl (by kernel_rfl) (fun _ _ _ h => h) ?yqr35z22x19 ?_; case yqr35z22x19 => (refine Or.inl ⟨rfl, fun wx hS => ?_⟩; go_simp; try with_reducible rfl)
    try simp only [Act.put, List.setIfInBounds_toArray, List.set_cons_zero, List.set_cons_succ]
    refine held_end (by kernel_rfl) ?_ _
    go_wp2
    go_ret
    exact ⟨rfl, below_of_none (grown_trans' GD.out Gr35z22x15.out)⟩
  | false =>
    refine heldb_take (i := 0) (d := some 46) (v := ?vqr135z22x1) (by assumption) rfl rfl (by kernel_rfl) (fun _ _ _ h => h) ?yqr135z22x1 ?_; case yqr135z22x1 => (refine Or.inl ⟨rfl, fun wx hS => ?_⟩; go_simp; try with_reducible rfl)
    try simp only [Act.put, List.setIfInBounds_toArray, List.set_cons_zero, List.set_cons_succ]
    refine heldb_take (i := 1) (d := some 47) (v := ?vqr135z22x2) (by assumption) rfl rfl (by kernel_rfl) (fun _ _ _ h => h) ?yqr135z22x2 ?_; case yqr135z22x2 => (refine Or.inl ⟨rfl, fun wx hS => ?_⟩; go_simp; try with_reducible rfl)
    try simp only [Act.put, List.setIfInBounds_toArray, List.set_cons_zero, List.set_cons_succ]
    refine heldb_take (i := 2) (d := some 48) (v := ?vqr135z22x3) (by assumption) rfl rfl (by kernel_rfl) (fun _ _ _ h => h) ?yqr135z22x3 ?_; case yqr135z22x3 => (refine Or.inl ⟨rfl, fun wx hS => ?_⟩; go_simp; try with_reducible rfl)
    try simp only [Act.put, List.setIfInBounds_toArray, List.set_cons_zero, List.set_cons_succ]
    refine heldb_take (i := 3) (d := some 49) (v := _) (by assumption) rfl rfl (by kernel_rfl) (fun _ _ _ h => h) (yields_loadC (p := X2) (off := 0) aggKm (.tmp 5) rfl rfl (fun wx hx => D5.out.below hx D5.out.lt) (by rw [List.drop_zero]; exact List.take_of_length_le (by rw [X2L.out]; exact Nat.le_refl _)) (by rw [X2L.out]; omega) rfl) ?_
    try simp only [Act.put, List.setIfInBounds_toArray, List.set_cons_zero, List.set_cons_succ]
    first | refine heldb_skip (i := 6) (d := some 52) (by assumption) rfl rfl (by kernel_rfl) (fun _ _ _ h => h) rfl ?_ | (refine heldb_take (i := 6) (d := some 52) (v := ?vqr135z22x5) (by assumption) rfl rfl (by kernel_rfl) (fun _ _ _ h => h) ?yqr135z22x5 ?_; case yqr135z22x5 => (refine Or.inl ⟨rfl, fun wx hS => ?_⟩; go_simp; try with_reducible rfl))
    try simp only [Act.put, List.setIfInBounds_toArray, List.set_cons_zero, List.set_cons_succ]
    refine heldb_take (i := 7) (d := some 53) (v := _) (by assumption) rfl rfl (by kernel_rfl) (fun _ _ _ h => h) (yields_cell1 (by intro w; kernel_rfl) (.tmp 52) rfl rfl (ad := ⟨w.heap.size, 0, none⟩) (v := .int .i64 kd) (fun wx hx => (hx.cell (p := ⟨w.heap.size, 0, none⟩) DB.out.lt).trans (DB.out.at_ Xk.out)) rfl) ?_
    try simp only [Act.put, List.setIfInBounds_toArray, List.set_cons_zero, List.set_cons_succ]
    first | refine heldb_skip (i := 8) (d := some 54) (by assumption) rfl rfl (by kernel_rfl) (fun _ _ _ h => h) rfl ?_ | (refine heldb_take (i := 8) (d := some 54) (v := ?vqr135z22x7) (by assumption) rfl rfl (by kernel_rfl) (fun _ _ _ h => h) ?yqr135z22x7 ?_; case yqr135z22x7 => (refine Or.inl ⟨rfl, fun wx hS => ?_⟩; go_simp; try with_reducible rfl))
    try simp only [Act.put, List.setIfInBounds_toArray, List.set_cons_zero, List.set_cons_succ]
    refine heldb_one (i := 4) rfl (by kernel_rfl) rfl (fun K hK => ?_)
    go_simp
    rw [← HX2.out]
    refine (check_k M T2 tc2 S2 sc2 wd.heap.size _ (HM.out.below (below_of_none (grown_trans' GD.out GZ.out))) (HKM.out.kept GZ.out (Nat.le_refl _)) GZ.out.size HN2.out HC2.out HS2.out).mono ?_
    rw [HX2.out, HO2.out, if_neg (by simp)]
    rintro e wr135z22x8 ⟨rfl, gr135z22x9⟩
    have Gr135z22x10 := Lib.hid (grown_trans' GZ.out gr135z22x9)
    have hb := below_of_none Gr135z22x10.out
    refine hK.out _ _ hb (fun hSr135z22x11 => ?_)
    clear hb hK K
    try simp only [Act.put, List.setIfInBounds_toArray, List.set_cons_zero, List.set_cons_succ]
    clear gr135z22x9
    first | refine heldb_skip (i := 5) (d := some 51) (by assumption) rfl rfl (by kernel_rfl) (fun _ _ _ h => h) rfl ?_ | (refine heldb_take (i := 5) (d := some 51) (v := ?vqr135z22x12) (by assumption) rfl rfl (by kernel_rfl) (fun _ _ _ h => h) ?yqr135z22x12 ?_; case yqr135z22x12 => (refine Or.inl ⟨rfl, fun wx hS => ?_⟩; go_simp; try with_reducible rfl))
    try simp only [Act.put, List.setIfInBounds_toArray, List.set_cons_zero, List.set_cons_succ]
    refine heldb_one (i := 9) rfl (by kernel_rfl) rfl (fun K hK => ?_)
    go_simp
    refine (refHas_any kd 35 _).mono ?_
    rintro e wr135z22x13 ⟨rfl, gr135z22x14⟩
    rw [HCT.out]
    have Gr135z22x15 := Lib.hid (grown_trans' Gr135z22x10.out gr135z22x14)
    have hb := below_of_none Gr135z22x15.out
    refine hK.out _ _ hb (fun hSr135z22x16 => ?_)
    clear hb hK K
    try simp only [Act.put, List.setIfInBounds_toArray, List.set_cons_zero, List.set_cons_succ]
    clear gr135z22x14
    first | refine heldb_skip (i := 10) (d := some 56) (by assumption) rfl rfl (by kernel_rfl) (fun _ _ _ h => h) rfl ?_ | (refine heldb_take (i := 10) (d := some 56) (v := ?vqr135z22x17) (by assumption) rfl rfl (by kernel_rfl) (fun _ _ _ h => h) ?yqr135z22x17 ?_; case yqr135z22x17 => (refine Or.inl ⟨rfl, fun wx hS => ?_⟩; go_simp; try with_reducible rfl))
    try simp only [Act.put, List.setIfInBounds_toArray, List.set_cons_zero, List.set_cons_succ]
    refine heldb_take (i := 11) (d := some 57) (v := ?vqr135z22x18) (by assumption) rfl rfl (by kernel_rfl) (fun _ _ _ h => h) ?yqr135z22x18 ?_; case yqr135z22x18 => (refine Or.inl ⟨rfl, fun wx hS => ?_⟩; go_simp; try with_reducible rfl)
    try simp only [Act.put, List.setIfInBounds_toArray, List.set_cons_zero, List.set_cons_succ]
    refine heldb_take (i := 12) (d := some 4) (v := ?vqr135z22x19) (by assumption) rfl rfl (by kernel_rfl) (fun _ _ _ h => h) ?yqr135z22x19 ?_; case yqr135z22x19 => (refine Or.inl ⟨rfl, fun wx hS => ?_⟩; go_simp; try with_reducible rfl)
    try simp only [Act.put, List.setIfInBounds_toArray, List.set_cons_zero, List.set_cons_succ]
    refine held_end (by kernel_rfl) ?_ _
    go_wp2
    go_ret
    exact ⟨rfl, below_of_none (grown_trans' GD.out Gr135z22x15.out)⟩
set_option maxRecDepth 100000 in
set_option maxHeartbeats 4000000 in
theorem bare_36 (w : World) (hM : ML w) (m : Msg) (T : Option Addr) (tc : Nat) (S : Option Addr) (sc : Nat) (hk : KM w w.heap.size m T tc S sc) (hn : m.no < 18446744073709551616) (other : Int) (hg : greatK m = false) (ho : okK m = true) (hj : bits .and .i64 other 7 = 4) :
    Calls Tryd.prog 11 #[.agg (kcells m T tc S sc).toArray, .int .i64 other] w fun e w' => e = .returned (.bool true) ∧ Below w.heap.size w w' := by
  have HM := Lib.hid hM
  have HK := Lib.hid hk
  have HN := Lib.hid hn
  obtain ⟨X, hX⟩ : ∃ X, kcells m T tc S sc = X := ⟨_, rfl⟩
  have HX := Lib.hid hX
  have XL := Lib.hid (show X.length = 9 by rw [← hX]; rfl)
  have XO := Lib.hid (show ∀ u ∈ X, u.oneCell' = true by rw [← hX]; exact kcells_one m T tc S sc)
  have Xk := Lib.hid (show X[0]? = some (.int .i64 m.kd) by rw [← hX]; rfl)
  obtain ⟨kd, hkd⟩ : ∃ k, m.kd = k := ⟨_, rfl⟩
  have HKD := Lib.hid hkd
  rw [hkd] at Xk
  have B0 := Lib.hid (CB.new w 59 X)
  have G0 := Lib.hid (grown_alloc w (.cells X.toArray 59) none)
  rw [hX]
  have HG := Lib.hid hg
  have HOK := Lib.hid ho
  have HC := Lib.hid (show m.c.size ≤ 1000000 by have := greatK_lens hg; omega)
  have HS := Lib.hid (show m.s.size ≤ 1000000 by have := greatK_lens hg; omega)
  obtain ⟨M, hMM⟩ : ∃ M, { m with fl := 1 } = M := ⟨_, rfl⟩
  obtain ⟨ct, hct⟩ : ∃ b, (tagsK kd).contains 36 = b := ⟨_, rfl⟩
  have HCT := Lib.hid hct
  have HO2 := Lib.hid (show okK M = ct by rw [← hMM, okK_with_fl ho, hkd, hct])
  have HN2 := Lib.hid (show M.no < 18446744073709551616 by rw [← hMM]; exact hn)
  have HC2 := Lib.hid (show M.c.size ≤ 1000000 by rw [← hMM]; exact HC.out)
  have HS2 := Lib.hid (show M.s.size ≤ 1000000 by rw [← hMM]; exact HS.out)
  have XLT := Lib.hid (show 5 < X.length by rw [XL.out]; omega)
  have HXS := Lib.hid (show X.set 5 (.int .i64 1) = kcells M T tc S sc by rw [← hX, ← hMM]; rfl)
  have HMT := Lib.hid (show M.t = m.t ∧ M.sl = m.sl by rw [← hMM]; exact ⟨rfl, rfl⟩)
  clear hM hk hn hX hg ho hkd hMM hct
  go_enter Tryd.func11, Tryd.ntmps11
  go_wp2_with (first
    | (refine wpList_storeC (off := 5) (p := [.int .i64 1]) (by kernel_rfl) rfl (.tmp 32) (.const (.int .i64 1)) rfl (.int .i64 1) rfl (fun u hu => by rw [List.mem_singleton.1 hu]; rfl) C4.out rfl XLT.out (by first | rfl | go_simp) rfl ?_; intro w5 h5 g5; rw [over_one _ _ _ XLT.out, HXS.out] at h5; have C5 := Lib.hid h5; have GH := Lib.hid (none_new GG.out g5 (Nat.le_refl _)); have G5 := Lib.hid (grown_trans' G3.out GH.out); have B5 := Lib.hid (B3.out.kept GH.out); clear h5 g5)
    | (go_at_call 29; refine (kspeaks_any _ (HM.out.below (below_of_none G0.out))).mono ?_; rintro e w1 ⟨rfl, g⟩; have G1 := Lib.hid (grown_trans' G0.out g); have B1 := Lib.hid (B0.out.kept g); clear g)
    | refine wpList_loadC (off := 0) (p := X) aggKm rfl (.tmp 2) rfl B1.out (by rw [List.drop_zero]; exact List.take_of_length_le (by rw [XL.out]; exact Nat.le_refl _)) (by rw [XL.out]; omega) (by first | rfl | go_simp) ?_
    | (go_at_call 30; rw [← HX.out]; refine (great_k m T tc S sc _).mono ?_; rw [HX.out, HG.out]; rintro e w2 ⟨rfl, g⟩; have G2 := Lib.hid (grown_trans' G1.out g); have B2 := Lib.hid (B1.out.kept g); clear g)
    | refine wpList_loadCg (off := 0) (p := X) aggKm (by first | rfl | go_simp) (.tmp 2) rfl B2.out (by rw [List.drop_zero]; exact List.take_of_length_le (by rw [XL.out]; exact Nat.le_refl _)) (by rw [XL.out]; omega) (by first | rfl | go_simp) ?_
    | (go_at_call 33; rw [← HX.out]; refine (check_k m T tc S sc w.heap.size _ (HM.out.below (below_of_none G2.out)) (HK.out.kept G2.out (Nat.le_refl _)) G2.out.size HN.out HC.out HS.out).mono ?_; rw [HX.out, HOK.out, if_pos rfl]; rintro e w3 ⟨rfl, g⟩; have G3 := Lib.hid (grown_trans' G2.out g); have B3 := Lib.hid (B2.out.kept g); clear g)
    | refine wpList_loadC (off := 0) (p := X) aggKm rfl (.tmp 2) rfl B3.out (by rw [List.drop_zero]; exact List.take_of_length_le (by rw [XL.out]; exact Nat.le_refl _)) (by rw [XL.out]; omega) (by first | rfl | go_simp) ?_
    | refine wpList_allocC zeroKm rfl rfl ?_
    | (refine wpList_storeC (off := 0) (p := X) aggKm.hi rfl (.tmp 5) (.tmp 16) rfl (.agg X.toArray) rfl XO.out (CB.new w3 59 (kcells mZ9 none 0 none 0)) XL.out (by rw [kcells_length]; omega) (by first | rfl | go_simp) rfl ?_; intro w4 h4 g4; rw [over_all _ _ (by rw [XL.out]; exact Nat.le_refl _)] at h4; have C4 := Lib.hid h4; have GG := Lib.hid (none_new (grown_alloc w3 (.cells (kcells mZ9 none 0 none 0).toArray 59) none) g4 (Nat.le_refl _)); have G4 := Lib.hid (grown_trans' G3.out GG.out); have B4 := Lib.hid (B3.out.kept GG.out); clear h4 g4))
  obtain ⟨T2, tc2, S2, sc2, hkk⟩ : ∃ T2 tc2 S2 sc2, kcells M T2 tc2 S2 sc2 = kcells M T tc S sc ∧ KM w5.drew w5.drew.heap.size M T2 tc2 S2 sc2 := ⟨T, tc, S, sc, rfl, ⟨by rw [HMT.out.1]; exact (HK.out.1.kept G5.out (Nat.le_refl _)).more G5.out.size, by rw [HMT.out.2]; exact (HK.out.2.kept G5.out (Nat.le_refl _)).more G5.out.size⟩⟩
  obtain ⟨X2, hX2⟩ : ∃ X, kcells M T2 tc2 S2 sc2 = X := ⟨_, rfl⟩
  have HX2 := Lib.hid hX2
  have X2L := Lib.hid (show X2.length = 9 by rw [← hX2]; rfl)
  have HKM := Lib.hid hkk.2
  have D5 := Lib.hid (show CB w5.drew w3.heap.size 59 X2 by rw [← hX2, hkk.1]; exact C5.out)
  have DB := Lib.hid (show CB w5.drew w.heap.size 59 X from B5.out)
  have GD := Lib.hid (grown_drew G5.out)
  clear hkk hX2
  refine heldb_begin w5.drew.heap.size (by kernel_rfl) (fun hS1 => ?_)
  have GZ := Lib.hid (World.grownBy.refl w5.drew none)
  generalize w5.drew = wd at *
  cases ct with
  | true =>
    refine heldb_take (i := 0) (d := some 46) (v := ?vqr36z22x1) (by assumption) rfl rfl (by kernel_rfl) (fun _ _ _ h => h) ?yqr36z22x1 ?_; case yqr36z22x1 => (refine Or.inl ⟨rfl, fun wx hS => ?_⟩; go_simp; try with_reducible rfl)
    try simp only [Act.put, List.setIfInBounds_toArray, List.set_cons_zero, List.set_cons_succ]
    refine heldb_take (i := 1) (d := some 47) (v := ?vqr36z22x2) (by assumption) rfl rfl (by kernel_rfl) (fun _ _ _ h => h) ?yqr36z22x2 ?_; case yqr36z22x2 => (refine Or.inl ⟨rfl, fun wx hS => ?_⟩; go_simp; try with_reducible rfl)
    try simp only [Act.put, List.setIfInBounds_toArray, List.set_cons_zero, List.set_cons_succ]
    refine heldb_take (i := 2) (d := some 48) (v := ?vqr36z22x3) (by assumption) rfl rfl (by kernel_rfl) (fun _ _ _ h => h) ?yqr36z22x3 ?_; case yqr36z22x3 => (refine Or.inl ⟨rfl, fun wx hS => ?_⟩; go_simp; try with_reducible rfl)
    try simp only [Act.put, List.setIfInBounds_toArray, List.set_cons_zero, List.set_cons_succ]
    refine heldb_take (i := 3) (d := some 49) (v := _) (by assumption) rfl rfl (by kernel_rfl) (fun _ _ _ h => h) (yields_loadC (p := X2) (off := 0) aggKm (.tmp 5) rfl rfl (fun wx hx => D5.out.below hx D5.out.lt) (by rw [List.drop_zero]; exact List.take_of_length_le (by rw [X2L.out]; exact Nat.le_refl _)) (by rw [X2L.out]; omega) rfl) ?_
    try simp only [Act.put, List.setIfInBounds_toArray, List.set_cons_zero, List.set_cons_succ]
    first | refine heldb_skip (i := 6) (d := some 52) (by assumption) rfl rfl (by kernel_rfl) (fun _ _ _ h => h) rfl ?_ | (refine heldb_take (i := 6) (d := some 52) (v := ?vqr36z22x5) (by assumption) rfl rfl (by kernel_rfl) (fun _ _ _ h => h) ?yqr36z22x5 ?_; case yqr36z22x5 => (refine Or.inl ⟨rfl, fun wx hS => ?_⟩; go_simp; try with_reducible rfl))
    try simp only [Act.put, List.setIfInBounds_toArray, List.set_cons_zero, List.set_cons_succ]
    refine heldb_take (i := 7) (d := some 53) (v := _) (by assumption) rfl rfl (by kernel_rfl) (fun _ _ _ h => h) (yields_cell1 (by intro w; kernel_rfl) (.tmp 52) rfl rfl (ad := ⟨w.heap.size, 0, none⟩) (v := .int .i64 kd) (fun wx hx => (hx.cell (p := ⟨w.heap.size, 0, none⟩) DB.out.lt).trans (DB.out.at_ Xk.out)) rfl) ?_
    try simp only [Act.put, List.setIfInBounds_toArray, List.set_cons_zero, List.set_cons_succ]
    first | refine heldb_skip (i := 8) (d := some 54) (by assumption) rfl rfl (by kernel_rfl) (fun _ _ _ h => h) rfl ?_ | (refine heldb_take (i := 8) (d := some 54) (v := ?vqr36z22x7) (by assumption) rfl rfl (by kernel_rfl) (fun _ _ _ h => h) ?yqr36z22x7 ?_; case yqr36z22x7 => (refine Or.inl ⟨rfl, fun wx hS => ?_⟩; go_simp; try with_reducible rfl))
    try simp only [Act.put, List.setIfInBounds_toArray, List.set_cons_zero, List.set_cons_succ]
    refine heldb_one (i := 4) rfl (by kernel_rfl) rfl (fun K hK => ?_)
    go_simp
    rw [← HX2.out]
    refine (check_k M T2 tc2 S2 sc2 wd.heap.size _ (HM.out.below (below_of_none (grown_trans' GD.out GZ.out))) (HKM.out.kept GZ.out (Nat.le_refl _)) GZ.out.size HN2.out HC2.out HS2.out).mono ?_
    rw [HX2.out, HO2.out, if_pos rfl]
    rintro e wr36z22x8 ⟨rfl, gr36z22x9⟩
    have Gr36z22x10 := Lib.hid (grown_trans' GZ.out gr36z22x9)
    have hb := below_of_none Gr36z22x10.out
    refine hK.out _ _ hb (fun hSr36z22x11 => ?_)
    clear hb hK K
    try simp only [Act.put, List.setIfInBounds_toArray, List.set_cons_zero, List.set_cons_succ]
    clear gr36z22x9
    first | refine heldb_skip (i := 5) (d := some 51) (by assumption) rfl rfl (by kernel_rfl) (fun _ _ _ h => h) rfl ?_ | (refine heldb_take (i := 5) (d := some 51) (v := ?vqr36z22x12) (by assumption) rfl rfl (by kernel_rfl) (fun _ _ _ h => h) ?yqr36z22x12 ?_; case yqr36z22x12 => (refine Or.inl ⟨rfl, fun wx hS => ?_⟩; go_simp; try with_reducible rfl))
    try simp only [Act.put, List.setIfInBounds_toArray, List.set_cons_zero, List.set_cons_succ]
    refine heldb_one (i := 9) rfl (by kernel_rfl) rfl (fun K hK => ?_)
    go_simp
    refine (refHas_any kd 36 _).mono ?_
    rintro e wr36z22x13 ⟨rfl, gr36z22x14⟩
    rw [HCT.out]
    have Gr36z22x15 := Lib.hid (grown_trans' Gr36z22x10.out gr36z22x14)
    have hb := below_of_none Gr36z22x15.out
    refine hK.out _ _ hb (fun hSr36z22x16 => ?_)
    clear hb hK K
    try simp only [Act.put, List.setIfInBounds_toArray, List.set_cons_zero, List.set_cons_succ]
    clear gr36z22x14
    first | refine heldb_skip (i := 10) (d := some 56) (by assumption) rfl rfl (by kernel_rfl) (fun _ _ _ h => h) rfl ?_ | (refine heldb_take (i := 10) (d := some 56) (v := ?vqr36z22x17) (by assumption) rfl rfl (by kernel_rfl) (fun _ _ _ h => h) ?yqr36z22x17 ?_; case yqr36z22x17 => (refine Or.inl ⟨rfl, fun wx hS => ?_⟩; go_simp; try with_reducible rfl))
    try simp only [Act.put, List.setIfInBounds_toArray, List.set_cons_zero, List.set_cons_succ]
    refine heldb_take (i := 11) (d := some 57) (v := ?vqr36z22x18) (by assumption) rfl rfl (by kernel_rfl) (fun _ _ _ h => h) ?yqr36z22x18 ?_; case yqr36z22x18 => (refine Or.inl ⟨rfl, fun wx hS => ?_⟩; go_simp; try with_reducible rfl)
    try simp only [Act.put, List.setIfInBounds_toArray, List.set_cons_zero, List.set_cons_succ]
    refine heldb_take (i := 12) (d := some 4) (v := ?vqr36z22x19) (by assumption) rfl rfl (by kernel_rfl) (fun _ _ _ h => h) ?yqr36z22x19 ?_; case yqr36z22x19 => (refine Or.inl ⟨rfl, fun wx hS => ?_⟩; go_simp; try with_reducible rfl)
    try simp only [Act.put, List.setIfInBounds_toArray, List.set_cons_zero, List.set_cons_succ]
    refine held_end (by kernel_rfl) ?_ _
    go_wp2
    go_ret
    exact ⟨rfl, below_of_none (grown_trans' GD.out Gr36z22x15.out)⟩
  | false =>
    refine heldb_take (i := 0) (d := some 46) (v := ?vqr136z22x1) (by assumption) rfl rfl (by kernel_rfl) (fun _ _ _ h => h) ?yqr136z22x1 ?_; case yqr136z22x1 => (refine Or.inl ⟨rfl, fun wx hS => ?_⟩; go_simp; try with_reducible rfl)
    try simp only [Act.put, List.setIfInBounds_toArray, List.set_cons_zero, List.set_cons_succ]
    refine heldb_take (i := 1) (d := some 47) (v := ?vqr136z22x2) (by assumption) rfl rfl (by kernel_rfl) (fun _ _ _ h => h) ?yqr136z22x2 ?_; case yqr136z22x2 => (refine Or.inl ⟨rfl, fun wx hS => ?_⟩; go_simp; try with_reducible rfl)
    try simp only [Act.put, List.setIfInBounds_toArray, List.set_cons_zero, List.set_cons_succ]
    refine heldb_take (i := 2) (d := some 48) (v := ?vqr136z22x3) (by assumption) rfl rfl (by kernel_rfl) (fun _ _ _ h => h) ?yqr136z22x3 ?_; case yqr136z22x3 => (refine Or.inl ⟨rfl, fun wx hS => ?_⟩; go_simp; try with_reducible rfl)
    try simp only [Act.put, List.setIfInBounds_toArray, List.set_cons_zero, List.set_cons_succ]
    refine heldb_take (i := 3) (d := some 49) (v := _) (by assumption) rfl rfl (by kernel_rfl) (fun _ _ _ h => h) (yields_loadC (p := X2) (off := 0) aggKm (.tmp 5) rfl rfl (fun wx hx => D5.out.below hx D5.out.lt) (by rw [List.drop_zero]; exact List.take_of_length_le (by rw [X2L.out]; exact Nat.le_refl _)) (by rw [X2L.out]; omega) rfl) ?_
    try simp only [Act.put, List.setIfInBounds_toArray, List.set_cons_zero, List.set_cons_succ]
    first | refine heldb_skip (i := 6) (d := some 52) (by assumption) rfl rfl (by kernel_rfl) (fun _ _ _ h => h) rfl ?_ | (refine heldb_take (i := 6) (d := some 52) (v := ?vqr136z22x5) (by assumption) rfl rfl (by kernel_rfl) (fun _ _ _ h => h) ?yqr136z22x5 ?_; case yqr136z22x5 => (refine Or.inl ⟨rfl, fun wx hS => ?_⟩; go_simp; try with_reducible rfl))
    try simp only [Act.put, List.setIfInBounds_toArray, List.set_cons_zero, List.set_cons_succ]
    refine heldb_take (i := 7) (d := some 53) (v := _) (by assumption) rfl rfl (by kernel_rfl) (fun _ _ _ h => h) (yields_cell1 (by intro w; kernel_rfl) (.tmp 52) rfl rfl (ad := ⟨w.heap.size, 0, none⟩) (v := .int .i64 kd) (fun wx hx => (hx.cell (p := ⟨w.heap.size, 0, none⟩) DB.out.lt).trans (DB.out.at_ Xk.out)) rfl) ?_
    try simp only [Act.put, List.setIfInBounds_toArray, List.set_cons_zero, List.set_cons_succ]
    first | refine heldb_skip (i := 8) (d := some 54) (by assumption) rfl rfl (by kernel_rfl) (fun _ _ _ h => h) rfl ?_ | (refine heldb_take (i := 8) (d := some 54) (v := ?vqr136z22x7) (by assumption) rfl rfl (by kernel_rfl) (fun _ _ _ h => h) ?yqr136z22x7 ?_; case yqr136z22x7 => (refine Or.inl ⟨rfl, fun wx hS => ?_⟩; go_simp; try with_reducible rfl))
    try simp only [Act.put, List.setIfInBounds_toArray, List.set_cons_zero, List.set_cons_succ]
    refine heldb_one (i := 4) rfl (by kernel_rfl) rfl (fun K hK => ?_)
    go_simp
    rw [← HX2.out]
    refine (check_k M T2 tc2 S2 sc2 wd.heap.size _ (HM.out.below (below_of_none (grown_trans' GD.out GZ.out))) (HKM.out.kept GZ.out (Nat.le_refl _)) GZ.out.size HN2.out HC2.out HS2.out).mono ?_
    rw [HX2.out, HO2.out, if_neg (by simp)]
    rintro e wr136z22x8 ⟨rfl, gr136z22x9⟩
    have Gr136z22x10 := Lib.hid (grown_trans' GZ.out gr136z22x9)
    have hb := below_of_none Gr136z22x10.out
    refine hK.out _ _ hb (fun hSr136z22x11 => ?_)
    clear hb hK K
    try simp only [Act.put, List.setIfInBounds_toArray, List.set_cons_zero, List.set_cons_succ]
    clear gr136z22x9
    first | refine heldb_skip (i := 5) (d := some 51) (by assumption) rfl rfl (by kernel_rfl) (fun _ _ _ h => h) rfl ?_ | (refine heldb_take (i := 5) (d := some 51) (v := ?vqr136z22x12) (by assumption) rfl rfl (by kernel_rfl) (fun _ _ _ h => h) ?yqr136z22x12 ?_; case yqr136z22x12 => (refine Or.inl ⟨rfl, fun wx hS => ?_⟩; go_simp; try with_reducible rfl))
    try simp only [Act.put, List.setIfInBounds_toArray, List.set_cons_zero, List.set_cons_succ]
    refine heldb_one (i := 9) rfl (by kernel_rfl) rfl (fun K hK => ?_)
    go_simp
    refine (refHas_any kd 36 _).mono ?_
    rintro e wr136z22x13 ⟨rfl, gr136z22x14⟩
    rw [HCT.out]
    have Gr136z22x15 := Lib.hid (grown_trans' Gr136z22x10.out gr136z22x14)
    have hb := below_of_none Gr136z22x15.out
    refine hK.out _ _ hb (fun hSr136z22x16 => ?_)
    clear hb hK K
    try simp only [Act.put, List.setIfInBounds_toArray, List.set_cons_zero, List.set_cons_succ]
    clear gr136z22x14
    first | refine heldb_skip (i := 10) (d := some 56) (by assumption) rfl rfl (by kernel_rfl) (fun _ _ _ h => h) rfl ?_ | (refine heldb_take (i := 10) (d := some 56) (v := ?vqr136z22x17) (by assumption) rfl rfl (by kernel_rfl) (fun _ _ _ h => h) ?yqr136z22x17 ?_; case yqr136z22x17 => (refine Or.inl ⟨rfl, fun wx hS => ?_⟩; go_simp; try with_reducible rfl))
    try simp only [Act.put, List.setIfInBounds_toArray, List.set_cons_zero, List.set_cons_succ]
    refine heldb_take (i := 11) (d := some 57) (v := ?vqr136z22x18) (by assumption) rfl rfl (by kernel_rfl) (fun _ _ _ h => h) ?yqr136z22x18 ?_; case yqr136z22x18 => (refine Or.inl ⟨rfl, fun wx hS => ?_⟩; go_simp; try with_reducible rfl)
    try simp only [Act.put, List.setIfInBounds_toArray, List.set_cons_zero, List.set_cons_succ]
    refine heldb_take (i := 12) (d := some 4) (v := ?vqr136z22x19) (by assumption) rfl rfl (by kernel_rfl) (fun _ _ _ h => h) ?yqr136z22x19 ?_; case yqr136z22x19 => (refine Or.inl ⟨rfl, fun wx hS => ?_⟩; go_simp; try with_reducible rfl)
    try simp only [Act.put, List.setIfInBounds_toArray, List.set_cons_zero, List.set_cons_succ]
    refine held_end (by kernel_rfl) ?_ _
    go_wp2
    go_ret
    exact ⟨rfl, below_of_none (grown_trans' GD.out Gr136z22x15.out)⟩
set_option maxRecDepth 100000 in
set_option maxHeartbeats 4000000 in
theorem bare_37 (w : World) (hM : ML w) (m : Msg) (T : Option Addr) (tc : Nat) (S : Option Addr) (sc : Nat) (hk : KM w w.heap.size m T tc S sc) (hn : m.no < 18446744073709551616) (other : Int) (hg : greatK m = false) (ho : okK m = true) (hj : bits .and .i64 other 7 = 5) :
    Calls Tryd.prog 11 #[.agg (kcells m T tc S sc).toArray, .int .i64 other] w fun e w' => e = .returned (.bool true) ∧ Below w.heap.size w w' := by
  have HM := Lib.hid hM
  have HK := Lib.hid hk
  have HN := Lib.hid hn
  obtain ⟨X, hX⟩ : ∃ X, kcells m T tc S sc = X := ⟨_, rfl⟩
  have HX := Lib.hid hX
  have XL := Lib.hid (show X.length = 9 by rw [← hX]; rfl)
  have XO := Lib.hid (show ∀ u ∈ X, u.oneCell' = true by rw [← hX]; exact kcells_one m T tc S sc)
  have Xk := Lib.hid (show X[0]? = some (.int .i64 m.kd) by rw [← hX]; rfl)
  obtain ⟨kd, hkd⟩ : ∃ k, m.kd = k := ⟨_, rfl⟩
  have HKD := Lib.hid hkd
  rw [hkd] at Xk
  have B0 := Lib.hid (CB.new w 59 X)
  have G0 := Lib.hid (grown_alloc w (.cells X.toArray 59) none)
  rw [hX]
  have HG := Lib.hid hg
  have HOK := Lib.hid ho
  have HC := Lib.hid (show m.c.size ≤ 1000000 by have := greatK_lens hg; omega)
  have HS := Lib.hid (show m.s.size ≤ 1000000 by have := greatK_lens hg; omega)
  obtain ⟨M, hMM⟩ : ∃ M, { m with t := [116] } = M := ⟨_, rfl⟩
  obtain ⟨ct, hct⟩ : ∃ b, (tagsK kd).contains 37 = b := ⟨_, rfl⟩
  have HCT := Lib.hid hct
  have HO2 := Lib.hid (show okK M = ct by rw [← hMM, okK_with_t ho, hkd, hct])
  have HN2 := Lib.hid (show M.no < 18446744073709551616 by rw [← hMM]; exact hn)
  have HC2 := Lib.hid (show M.c.size ≤ 1000000 by rw [← hMM]; exact HC.out)
  have HS2 := Lib.hid (show M.s.size ≤ 1000000 by rw [← hMM]; exact HS.out)
  have XLT := Lib.hid (show 6 < X.length by rw [XL.out]; omega)
  have HMT := Lib.hid (show M.t = [116] ∧ M.sl = m.sl by rw [← hMM]; exact ⟨rfl, rfl⟩)
  have HXF := Lib.hid (show ∀ g : Nat, X.set 6 (.slice (some ⟨g, 0, none⟩) 1 1) = kcells M (some ⟨g, 0, none⟩) 1 S sc from fun g => by rw [← hX, ← hMM]; rfl)
  clear hM hk hn hX hg ho hkd hMM hct
  go_enter Tryd.func11, Tryd.ntmps11
  go_wp2_with (first
    | (refine wpList_storeC (off := 6) (p := [.slice (some ⟨w4.heap.size, 0, none⟩) 1 1]) (by kernel_rfl) rfl (.tmp 37) (.tmp 36) rfl (.slice (some ⟨w4.heap.size, 0, none⟩) 1 1) rfl (fun u hu => by rw [List.mem_singleton.1 hu]; rfl) (C4.out.alloc (.cells #[.int .u8 116] 5 (1, 2))) rfl XLT.out (by first | rfl | go_simp) (by first | rfl | go_simp) ?_; intro w5 h5 g5; rw [over_one _ _ _ XLT.out, HXF.out] at h5; have C5 := Lib.hid h5; have GH := Lib.hid (none_new (grown_trans' (grown_trans' GG.out (grown_alloc w4 (.cells #[.int .u8 116] 5 (1, 2)) none)) (World.grownBy.refl _ none)) g5 (Nat.le_refl _)); have G5 := Lib.hid (grown_trans' G3.out GH.out); have B5 := Lib.hid (B3.out.kept GH.out); have RN := Lib.hid (show RB w5 w5.heap.size (some ⟨w4.heap.size, 0, none⟩) [116] 1 from RB.keptX (RB.newm w4 5 (1, 2) [116] (by decide) _ (by rw [World.size_alloc]; omega)) g5 C4.out.lt); clear h5 g5)
    | (go_at_call 29; refine (kspeaks_any _ (HM.out.below (below_of_none G0.out))).mono ?_; rintro e w1 ⟨rfl, g⟩; have G1 := Lib.hid (grown_trans' G0.out g); have B1 := Lib.hid (B0.out.kept g); clear g)
    | refine wpList_loadC (off := 0) (p := X) aggKm rfl (.tmp 2) rfl B1.out (by rw [List.drop_zero]; exact List.take_of_length_le (by rw [XL.out]; exact Nat.le_refl _)) (by rw [XL.out]; omega) (by first | rfl | go_simp) ?_
    | (go_at_call 30; rw [← HX.out]; refine (great_k m T tc S sc _).mono ?_; rw [HX.out, HG.out]; rintro e w2 ⟨rfl, g⟩; have G2 := Lib.hid (grown_trans' G1.out g); have B2 := Lib.hid (B1.out.kept g); clear g)
    | refine wpList_loadCg (off := 0) (p := X) aggKm (by first | rfl | go_simp) (.tmp 2) rfl B2.out (by rw [List.drop_zero]; exact List.take_of_length_le (by rw [XL.out]; exact Nat.le_refl _)) (by rw [XL.out]; omega) (by first | rfl | go_simp) ?_
    | (go_at_call 33; rw [← HX.out]; refine (check_k m T tc S sc w.heap.size _ (HM.out.below (below_of_none G2.out)) (HK.out.kept G2.out (Nat.le_refl _)) G2.out.size HN.out HC.out HS.out).mono ?_; rw [HX.out, HOK.out, if_pos rfl]; rintro e w3 ⟨rfl, g⟩; have G3 := Lib.hid (grown_trans' G2.out g); have B3 := Lib.hid (B2.out.kept g); clear g)
    | refine wpList_loadC (off := 0) (p := X) aggKm rfl (.tmp 2) rfl B3.out (by rw [List.drop_zero]; exact List.take_of_length_le (by rw [XL.out]; exact Nat.le_refl _)) (by rw [XL.out]; omega) (by first | rfl | go_simp) ?_
    | refine wpList_allocC zeroKm rfl rfl ?_
    | (refine wpList_storeC (off := 0) (p := X) aggKm.hi rfl (.tmp 5) (.tmp 16) rfl (.agg X.toArray) rfl XO.out (CB.new w3 59 (kcells mZ9 none 0 none 0)) XL.out (by rw [kcells_length]; omega) (by first | rfl | go_simp) rfl ?_; intro w4 h4 g4; rw [over_all _ _ (by rw [XL.out]; exact Nat.le_refl _)] at h4; have C4 := Lib.hid h4; have GG := Lib.hid (none_new (grown_alloc w3 (.cells (kcells mZ9 none 0 none 0).toArray 59) none) g4 (Nat.le_refl _)); have G4 := Lib.hid (grown_trans' G3.out GG.out); have B4 := Lib.hid (B3.out.kept GG.out); have hcv := (show (convert 26 26 (.slice (some ⟨w4.heap.size, 0, none⟩) 1 1)).run Tryd.prog (w4.alloc (.cells #[.int .u8 116] 5)) = .ok (.slice (some ⟨w4.heap.size, 0, none⟩) 1 1) (w4.alloc (.cells #[.int .u8 116] 5 (1, 2))) from Go.Lib.run_convert_bytes_const w4 26 5 #[.int .u8 116] 1 1 Tryd.underlying26 Tryd.underlying5); clear h4 g4))
  obtain ⟨T2, tc2, S2, sc2, hkk⟩ : ∃ T2 tc2 S2 sc2, kcells M T2 tc2 S2 sc2 = kcells M (some ⟨w4.heap.size, 0, none⟩) 1 S sc ∧ KM w5.drew w5.drew.heap.size M T2 tc2 S2 sc2 := ⟨(some ⟨w4.heap.size, 0, none⟩), 1, S, sc, rfl, ⟨by rw [HMT.out.1]; exact RN.out, by rw [HMT.out.2]; exact (HK.out.2.kept G5.out (Nat.le_refl _)).more G5.out.size⟩⟩
  obtain ⟨X2, hX2⟩ : ∃ X, kcells M T2 tc2 S2 sc2 = X := ⟨_, rfl⟩
  have HX2 := Lib.hid hX2
  have X2L := Lib.hid (show X2.length = 9 by rw [← hX2]; rfl)
  have HKM := Lib.hid hkk.2
  have D5 := Lib.hid (show CB w5.drew w3.heap.size 59 X2 by rw [← hX2, hkk.1]; exact C5.out)
  have DB := Lib.hid (show CB w5.drew w.heap.size 59 X from B5.out)
  have GD := Lib.hid (grown_drew G5.out)
  clear hkk hX2
  refine heldb_begin w5.drew.heap.size (by kernel_rfl) (fun hS1 => ?_)
  have GZ := Lib.hid (World.grownBy.refl w5.drew none)
  generalize w5.drew = wd at *
  cases ct with
  | true =>
    refine heldb_take (i := 0) (d := some 46) (v := ?vqr37z22x1) (by assumption) rfl rfl (by kernel_rfl) (fun _ _ _ h => h) ?yqr37z22x1 ?_; case yqr37z22x1 => (refine Or.inl ⟨rfl, fun wx hS => ?_⟩; go_simp; try with_reducible rfl)
    try simp only [Act.put, List.setIfInBounds_toArray, List.set_cons_zero, List.set_cons_succ]
    refine heldb_take (i := 1) (d := some 47) (v := ?vqr37z22x2) (by assumption) rfl rfl (by kernel_rfl) (fun _ _ _ h => h) ?yqr37z22x2 ?_; case yqr37z22x2 => (refine Or.inl ⟨rfl, fun wx hS => ?_⟩; go_simp; try with_reducible rfl)
    try simp only [Act.put, List.setIfInBounds_toArray, List.set_cons_zero, List.set_cons_succ]
    refine heldb_take (i := 2) (d := some 48) (v := ?vqr37z22x3) (by assumption) rfl rfl (by kernel_rfl) (fun _ _ _ h => h) ?yqr37z22x3 ?_; case yqr37z22x3 => (refine Or.inl ⟨rfl, fun wx hS => ?_⟩; go_simp; try with_reducible rfl)
    try simp only [Act.put, List.setIfInBounds_toArray, List.set_cons_zero, List.set_cons_succ]
    refine heldb_take (i := 3) (d := some 49) (v := _) (by assumption) rfl rfl (by kernel_rfl) (fun _ _ _ h => h) (yields_loadC (p := X2) (off := 0) aggKm (.tmp 5) rfl rfl (fun wx hx => D5.out.below hx D5.out.lt) (by rw [List.drop_zero]; exact List.take_of_length_le (by rw [X2L.out]; exact Nat.le_refl _)) (by rw [X2L.out]; omega) rfl) ?_
    try simp only [Act.put, List.setIfInBounds_toArray, List.set_cons_zero, List.set_cons_succ]
    first | refine heldb_skip (i := 6) (d := some 52) (by assumption) rfl rfl (by kernel_rfl) (fun _ _ _ h => h) rfl ?_ | (refine heldb_take (i := 6) (d := some 52) (v := ?vqr37z22x5) (by assumption) rfl rfl (by kernel_rfl) (fun _ _ _ h => h) ?yqr37z22x5 ?_; case yqr37z22x5 => (refine Or.inl ⟨rfl, fun wx hS => ?_⟩; go_simp; try with_reducible rfl))
    try simp only [Act.put, List.setIfInBounds_toArray, List.set_cons_zero, List.set_cons_succ]
    refine heldb_take (i := 7) (d := some 53) (v := _) (by assumption) rfl rfl (by kernel_rfl) (fun _ _ _ h => h) (yields_cell1 (by intro w; kernel_rfl) (.tmp 52) rfl rfl (ad := ⟨w.heap.size, 0, none⟩) (v := .int .i64 kd) (fun wx hx => (hx.cell (p := ⟨w.heap.size, 0, none⟩) DB.out.lt).trans (DB.out.at_ Xk.out)) rfl) ?_
    try simp only [Act.put, List.setIfInBounds_toArray, List.set_cons_zero, List.set_cons_succ]
    first | refine heldb_skip (i := 8) (d := some 54) (by assumption) rfl rfl (by kernel_rfl) (fun _ _ _ h => h) rfl ?_ | (refine heldb_take (i := 8) (d := some 54) (v := ?vqr37z22x7) (by assumption) rfl rfl (by kernel_rfl) (fun _ _ _ h => h) ?yqr37z22x7 ?_; case yqr37z22x7 => (refine Or.inl ⟨rfl, fun wx hS => ?_⟩; go_simp; try with_reducible rfl))
    try simp only [Act.put, List.setIfInBounds_toArray, List.set_cons_zero, List.set_cons_succ]
    refine heldb_one (i := 4) rfl (by kernel_rfl) rfl (fun K hK => ?_)
    go_simp
    rw [← HX2.out]
    refine (check_k M T2 tc2 S2 sc2 wd.heap.size _ (HM.out.below (below_of_none (grown_trans' GD.out GZ.out))) (HKM.out.kept GZ.out (Nat.le_refl _)) GZ.out.size HN2.out HC2.out HS2.out).mono ?_
    rw [HX2.out, HO2.out, if_pos rfl]
    rintro e wr37z22x8 ⟨rfl, gr37z22x9⟩
    have Gr37z22x10 := Lib.hid (grown_trans' GZ.out gr37z22x9)
    have hb := below_of_none Gr37z22x10.out
    refine hK.out _ _ hb (fun hSr37z22x11 => ?_)
    clear hb hK K
    try simp only [Act.put, List.setIfInBounds_toArray, List.set_cons_zero, List.set_cons_succ]
    clear gr37z22x9
    first | refine heldb_skip (i := 5) (d := some 51) (by assumption) rfl rfl (by kernel_rfl) (fun _ _ _ h => h) rfl ?_ | (refine heldb_take (i := 5) (d := some 51) (v := ?vqr37z22x12) (by assumption) rfl rfl (by kernel_rfl) (fun _ _ _ h => h) ?yqr37z22x12 ?_; case yqr37z22x12 => (refine Or.inl ⟨rfl, fun wx hS => ?_⟩; go_simp; try with_reducible rfl))
    try simp only [Act.put, List.setIfInBounds_toArray, List.set_cons_zero, List.set_cons_succ]
    refine heldb_one (i := 9) rfl (by kernel_rfl) rfl (fun K hK => ?_)
    go_simp
    refine (refHas_any kd 37 _).mono ?_
    rintro e wr37z22x13 ⟨rfl, gr37z22x14⟩
    rw [HCT.out]
    have Gr37z22x15 := Lib.hid (grown_trans' Gr37z22x10.out gr37z22x14)
    have hb := below_of_none Gr37z22x15.out
    refine hK.out _ _ hb (fun hSr37z22x16 => ?_)
    clear hb hK K
    try simp only [Act.put, List.setIfInBounds_toArray, List.set_cons_zero, List.set_cons_succ]
    clear gr37z22x14
    first | refine heldb_skip (i := 10) (d := some 56) (by assumption) rfl rfl (by kernel_rfl) (fun _ _ _ h => h) rfl ?_ | (refine heldb_take (i := 10) (d := some 56) (v := ?vqr37z22x17) (by assumption) rfl rfl (by kernel_rfl) (fun _ _ _ h => h) ?yqr37z22x17 ?_; case yqr37z22x17 => (refine Or.inl ⟨rfl, fun wx hS => ?_⟩; go_simp; try with_reducible rfl))
    try simp only [Act.put, List.setIfInBounds_toArray, List.set_cons_zero, List.set_cons_succ]
    refine heldb_take (i := 11) (d := some 57) (v := ?vqr37z22x18) (by assumption) rfl rfl (by kernel_rfl) (fun _ _ _ h => h) ?yqr37z22x18 ?_; case yqr37z22x18 => (refine Or.inl ⟨rfl, fun wx hS => ?_⟩; go_simp; try with_reducible rfl)
    try simp only [Act.put, List.setIfInBounds_toArray, List.set_cons_zero, List.set_cons_succ]
    refine heldb_take (i := 12) (d := some 4) (v := ?vqr37z22x19) (by assumption) rfl rfl (by kernel_rfl) (fun _ _ _ h => h) ?yqr37z22x19 ?_; case yqr37z22x19 => (refine Or.inl ⟨rfl, fun wx hS => ?_⟩; go_simp; try with_reducible rfl)
    try simp only [Act.put, List.setIfInBounds_toArray, List.set_cons_zero, List.set_cons_succ]
    refine held_end (by kernel_rfl) ?_ _
    go_wp2
    go_ret
    exact ⟨rfl, below_of_none (grown_trans' GD.out Gr37z22x15.out)⟩
  | false =>
    refine heldb_take (i := 0) (d := some 46) (v := ?vqr137z22x1) (by assumption) rfl rfl (by kernel_rfl) (fun _ _ _ h => h) ?yqr137z22x1 ?_; case yqr137z22x1 => (refine Or.inl ⟨rfl, fun wx hS => ?_⟩; go_simp; try with_reducible rfl)
    try simp only [Act.put, List.setIfInBounds_toArray, List.set_cons_zero, List.set_cons_succ]
    refine heldb_take (i := 1) (d := some 47) (v := ?vqr137z22x2) (by assumption) rfl rfl (by kernel_rfl) (fun _ _ _ h => h) ?yqr137z22x2 ?_; case yqr137z22x2 => (refine Or.inl ⟨rfl, fun wx hS => ?_⟩; go_simp; try with_reducible rfl)
    try simp only [Act.put, List.setIfInBounds_toArray, List.set_cons_zero, List.set_cons_succ]
    refine heldb_take (i := 2) (d := some 48) (v := ?vqr137z22x3) (by assumption) rfl rfl (by kernel_rfl) (fun _ _ _ h => h) ?yqr137z22x3 ?_; case yqr137z22x3 => (refine Or.inl ⟨rfl, fun wx hS => ?_⟩; go_simp; try with_reducible rfl)
    try simp only [Act.put, List.setIfInBounds_toArray, List.set_cons_zero, List.set_cons_succ]
    refine heldb_take (i := 3) (d := some 49) (v := _) (by assumption) rfl rfl (by kernel_rfl) (fun _ _ _ h => h) (yields_loadC (p := X2) (off := 0) aggKm (.tmp 5) rfl rfl (fun wx hx => D5.out.below hx D5.out.lt) (by rw [List.drop_zero]; exact List.take_of_length_le (by rw [X2L.out]; exact Nat.le_refl _)) (by rw [X2L.out]; omega) rfl) ?_
    try simp only [Act.put, List.setIfInBounds_toArray, List.set_cons_zero, List.set_cons_succ]
    first | refine heldb_skip (i := 6) (d := some 52) (by assumption) rfl rfl (by kernel_rfl) (fun _ _ _ h => h) rfl ?_ | (refine heldb_take (i := 6) (d := some 52) (v := ?vqr137z22x5) (by assumption) rfl rfl (by kernel_rfl) (fun _ _ _ h => h) ?yqr137z22x5 ?_; case yqr137z22x5 => (refine Or.inl ⟨rfl, fun wx hS => ?_⟩; go_simp; try with_reducible rfl))
    try simp only [Act.put, List.setIfInBounds_toArray, List.set_cons_zero, List.set_cons_succ]
    refine heldb_take (i := 7) (d := some 53) (v := _) (by assumption) rfl rfl (by kernel_rfl) (fun _ _ _ h => h) (yields_cell1 (by intro w; kernel_rfl) (.tmp 52) rfl rfl (ad := ⟨w.heap.size, 0, none⟩) (v := .int .i64 kd) (fun wx hx => (hx.cell (p := ⟨w.heap.size, 0, none⟩) DB.out.lt).trans (DB.out.at_ Xk.out)) rfl) ?_
    try simp only [Act.put, List.setIfInBounds_toArray, List.set_cons_zero, List.set_cons_succ]
    first | refine heldb_skip (i := 8) (d := some 54) (by assumption) rfl rfl (by kernel_rfl) (fun _ _ _ h => h) rfl ?_ | (refine heldb_take (i := 8) (d := some 54) (v := ?vqr137z22x7) (by assumption) rfl rfl (by kernel_rfl) (fun _ _ _ h => h) ?yqr137z22x7 ?_; case yqr137z22x7 => (refine Or.inl ⟨rfl, fun wx hS => ?_⟩; go_simp; try with_reducible rfl))
    try simp only [Act.put, List.setIfInBounds_toArray, List.set_cons_zero, List.set_cons_succ]
    refine heldb_one (i := 4) rfl (by kernel_rfl) rfl (fun K hK => ?_)
    go_simp
    rw [← HX2.out]
    refine (check_k M T2 tc2 S2 sc2 wd.heap.size _ (HM.out.below (below_of_none (grown_trans' GD.out GZ.out))) (HKM.out.kept GZ.out (Nat.le_refl _)) GZ.out.size HN2.out HC2.out HS2.out).mono ?_
    rw [HX2.out, HO2.out, if_neg (by simp)]
    rintro e wr137z22x8 ⟨rfl, gr137z22x9⟩
    have Gr137z22x10 := Lib.hid (grown_trans' GZ.out gr137z22x9)
    have hb := below_of_none Gr137z22x10.out
    refine hK.out _ _ hb (fun hSr137z22x11 => ?_)
    clear hb hK K
    try simp only [Act.put, List.setIfInBounds_toArray, List.set_cons_zero, List.set_cons_succ]
    clear gr137z22x9
    first | refine heldb_skip (i := 5) (d := some 51) (by assumption) rfl rfl (by kernel_rfl) (fun _ _ _ h => h) rfl ?_ | (refine heldb_take (i := 5) (d := some 51) (v := ?vqr137z22x12) (by assumption) rfl rfl (by kernel_rfl) (fun _ _ _ h => h) ?yqr137z22x12 ?_; case yqr137z22x12 => (refine Or.inl ⟨rfl, fun wx hS => ?_⟩; go_simp; try with_reducible rfl))
    try simp only [Act.put, List.setIfInBounds_toArray, List.set_cons_zero, List.set_cons_succ]
    refine heldb_one (i := 9) rfl (by kernel_rfl) rfl (fun K hK => ?_)
    go_simp
    refine (refHas_any kd 37 _).mono ?_
    rintro e wr137z22x13 ⟨rfl, gr137z22x14⟩
    rw [HCT.out]
    have Gr137z22x15 := Lib.hid (grown_trans' Gr137z22x10.out gr137z22x14)
    have hb := below_of_none Gr137z22x15.out
    refine hK.out _ _ hb (fun hSr137z22x16 => ?_)
    clear hb hK K
    try simp only [Act.put, List.setIfInBounds_toArray, List.set_cons_zero, List.set_cons_succ]
    clear gr137z22x14
    first | refine heldb_skip (i := 10) (d := some 56) (by assumption) rfl rfl (by kernel_rfl) (fun _ _ _ h => h) rfl ?_ | (refine heldb_take (i := 10) (d := some 56) (v := ?vqr137z22x17) (by assumption) rfl rfl (by kernel_rfl) (fun _ _ _ h => h) ?yqr137z22x17 ?_; case yqr137z22x17 => (refine Or.inl ⟨rfl, fun wx hS => ?_⟩; go_simp; try with_reducible rfl))
    try simp only [Act.put, List.setIfInBounds_toArray, List.set_cons_zero, List.set_cons_succ]
    refine heldb_take (i := 11) (d := some 57) (v := ?vqr137z22x18) (by assumption) rfl rfl (by kernel_rfl) (fun _ _ _ h => h) ?yqr137z22x18 ?_; case yqr137z22x18 => (refine Or.inl ⟨rfl, fun wx hS => ?_⟩; go_simp; try with_reducible rfl)
    try simp only [Act.put, List.setIfInBounds_toArray, List.set_cons_zero, List.set_cons_succ]
    refine heldb_take (i := 12) (d := some 4) (v := ?vqr137z22x19) (by assumption) rfl rfl (by kernel_rfl) (fun _ _ _ h => h) ?yqr137z22x19 ?_; case yqr137z22x19 => (refine Or.inl ⟨rfl, fun wx hS => ?_⟩; go_simp; try with_reducible rfl)
    try simp only [Act.put, List.setIfInBounds_toArray, List.set_cons_zero, List.set_cons_succ]
    refine held_end (by kernel_rfl) ?_ _
    go_wp2
    go_ret
    exact ⟨rfl, below_of_none (grown_trans' GD.out Gr137z22x15.out)⟩
set_option maxRecDepth 100000 in
set_option maxHeartbeats 4000000 in
theorem bare_38 (w : World) (hM : ML w) (m : Msg) (T : Option Addr) (tc : Nat) (S : Option Addr) (sc : Nat) (hk : KM w w.heap.size m T tc S sc) (hn : m.no < 18446744073709551616) (other : Int) (hg : greatK m = false) (ho : okK m = true) (hj : bits .and .i64 other 7 = 6) :
    Calls Tryd.prog 11 #[.agg (kcells m T tc S sc).toArray, .int .i64 other] w fun e w' => e = .returned (.bool true) ∧ Below w.heap.size w w' := by
  have HM := Lib.hid hM
  have HK := Lib.hid hk
  have HN := Lib.hid hn
  obtain ⟨X, hX⟩ : ∃ X, kcells m T tc S sc = X := ⟨_, rfl⟩
  have HX := Lib.hid hX
  have XL := Lib.hid (show X.length = 9 by rw [← hX]; rfl)
  have XO := Lib.hid (show ∀ u ∈ X, u.oneCell' = true by rw [← hX]; exact kcells_one m T tc S sc)
  have Xk := Lib.hid (show X[0]? = some (.int .i64 m.kd) by rw [← hX]; rfl)
  obtain ⟨kd, hkd⟩ : ∃ k, m.kd = k := ⟨_, rfl⟩
  have HKD := Lib.hid hkd
  rw [hkd] at Xk
  have B0 := Lib.hid (CB.new w 59 X)
  have G0 := Lib.hid (grown_alloc w (.cells X.toArray 59) none)
  rw [hX]
  have HG := Lib.hid hg
  have HOK := Lib.hid ho
  have HC := Lib.hid (show m.c.size ≤ 1000000 by have := greatK_lens hg; omega)
  have HS := Lib.hid (show m.s.size ≤ 1000000 by have := greatK_lens hg; omega)
  obtain ⟨M, hMM⟩ : ∃ M, { m with sl := [115] } = M := ⟨_, rfl⟩
  obtain ⟨ct, hct⟩ : ∃ b, (tagsK kd).contains 38 = b := ⟨_, rfl⟩
  have HCT := Lib.hid hct
  have HO2 := Lib.hid (show okK M = ct by rw [← hMM, okK_with_sl ho, hkd, hct])
  have HN2 := Lib.hid (show M.no < 18446744073709551616 by rw [← hMM]; exact hn)
  have HC2 := Lib.hid (show M.c.size ≤ 1000000 by rw [← hMM]; exact HC.out)
  have HS2 := Lib.hid (show M.s.size ≤ 1000000 by rw [← hMM]; exact HS.out)
  have XLT := Lib.hid (show 7 < X.length by rw [XL.out]; omega)
  have HMT := Lib.hid (show M.t = m.t ∧ M.sl = [115] by rw [← hMM]; exact ⟨rfl, rfl⟩)
  have HXF := Lib.hid (show ∀ g : Nat, X.set 7 (.slice (some ⟨g, 0, none⟩) 1 1) = kcells M T tc (some ⟨g, 0, none⟩) 1 from fun g => by rw [← hX, ← hMM]; rfl)
  clear hM hk hn hX hg ho hkd hMM hct
  go_enter Tryd.func11, Tryd.ntmps11
  go_wp2_with (first
    | (refine wpList_storeC (off := 7) (p := [.slice (some ⟨w4.heap.size, 0, none⟩) 1 1]) (by kernel_rfl) rfl (.tmp 42) (.tmp 41) rfl (.slice (some ⟨w4.heap.size, 0, none⟩) 1 1) rfl (fun u hu => by rw [List.mem_singleton.1 hu]; rfl) (C4.out.alloc (.cells #[.int .u8 115] 5 (1, 2))) rfl XLT.out (by first | rfl | go_simp) (by first | rfl | go_simp) ?_; intro w5 h5 g5; rw [over_one _ _ _ XLT.out, HXF.out] at h5; have C5 := Lib.hid h5; have GH := Lib.hid (none_new (grown_trans' (grown_trans' GG.out (grown_alloc w4 (.cells #[.int .u8 115] 5 (1, 2)) none)) (World.grownBy.refl _ none)) g5 (Nat.le_refl _)); have G5 := Lib.hid (grown_trans' G3.out GH.out); have B5 := Lib.hid (B3.out.kept GH.out); have RN := Lib.hid (show RB w5 w5.heap.size (some ⟨w4.heap.size, 0, none⟩) [115] 1 from RB.keptX (RB.newm w4 5 (1, 2) [115] (by decide) _ (by rw [World.size_alloc]; omega)) g5 C4.out.lt); clear h5 g5)
    | (go_at_call 29; refine (kspeaks_any _ (HM.out.below (below_of_none G0.out))).mono ?_; rintro e w1 ⟨rfl, g⟩; have G1 := Lib.hid (grown_trans' G0.out g); have B1 := Lib.hid (B0.out.kept g); clear g)
    | refine wpList_loadC (off := 0) (p := X) aggKm rfl (.tmp 2) rfl B1.out (by rw [List.drop_zero]; exact List.take_of_length_le (by rw [XL.out]; exact Nat.le_refl _)) (by rw [XL.out]; omega) (by first | rfl | go_simp) ?_
    | (go_at_call 30; rw [← HX.out]; refine (great_k m T tc S sc _).mono ?_; rw [HX.out, HG.out]; rintro e w2 ⟨rfl, g⟩; have G2 := Lib.hid (grown_trans' G1.out g); have B2 := Lib.hid (B1.out.kept g); clear g)
    | refine wpList_loadCg (off := 0) (p := X) aggKm (by first | rfl | go_simp) (.tmp 2) rfl B2.out (by rw [List.drop_zero]; exact List.take_of_length_le (by rw [XL.out]; exact Nat.le_refl _)) (by rw [XL.out]; omega) (by first | rfl | go_simp) ?_
    | (go_at_call 33; rw [← HX.out]; refine (check_k m T tc S sc w.heap.size _ (HM.out.below (below_of_none G2.out)) (HK.out.kept G2.out (Nat.le_refl _)) G2.out.size HN.out HC.out HS.out).mono ?_; rw [HX.out, HOK.out, if_pos rfl]; rintro e w3 ⟨rfl, g⟩; have G3 := Lib.hid (grown_trans' G2.out g); have B3 := Lib.hid (B2.out.kept g); clear g)
    | refine wpList_loadC (off := 0) (p := X) aggKm rfl (.tmp 2) rfl B3.out (by rw [List.drop_zero]; exact List.take_of_length_le (by rw [XL.out]; exact Nat.le_refl _)) (by rw [XL.out]; omega) (by first | rfl | go_simp) ?_
    | refine wpList_allocC zeroKm rfl rfl ?_
    | (refine wpList_storeC (off := 0) (p := X) aggKm.hi rfl (.tmp 5) (.tmp 16) rfl (.agg X.toArray) rfl XO.out (CB.new w3 59 (kcells mZ9 none 0 none 0)) XL.out (by rw [kcells_length]; omega) (by first | rfl | go_simp) rfl ?_; intro w4 h4 g4; rw [over_all _ _ (by rw [XL.out]; exact Nat.le_refl _)] at h4; have C4 := Lib.hid h4; have GG := Lib.hid (none_new (grown_alloc w3 (.cells (kcells mZ9 none 0 none 0).toArray 59) none) g4 (Nat.le_refl _)); have G4 := Lib.hid (grown_trans' G3.out GG.out); have B4 := Lib.hid (B3.out.kept GG.out); have hcv := (show (convert 26 26 (.slice (some ⟨w4.heap.size, 0, none⟩) 1 1)).run Tryd.prog (w4.alloc (.cells #[.int .u8 115] 5)) = .ok (.slice (some ⟨w4.heap.size, 0, none⟩) 1 1) (w4.alloc (.cells #[.int .u8 115] 5 (1, 2))) from Go.Lib.run_convert_bytes_const w4 26 5 #[.int .u8 115] 1 1 Tryd.underlying26 Tryd.underlying5); clear h4 g4))
  obtain ⟨T2, tc2, S2, sc2, hkk⟩ : ∃ T2 tc2 S2 sc2, kcells M T2 tc2 S2 sc2 = kcells M T tc (some ⟨w4.heap.size, 0, none⟩) 1 ∧ KM w5.drew w5.drew.heap.size M T2 tc2 S2 sc2 := ⟨T, tc, (some ⟨w4.heap.size, 0, none⟩), 1, rfl, ⟨by rw [HMT.out.1]; exact (HK.out.1.kept G5.out (Nat.le_refl _)).more G5.out.size, by rw [HMT.out.2]; exact RN.out⟩⟩
  obtain ⟨X2, hX2⟩ : ∃ X, kcells M T2 tc2 S2 sc2 = X := ⟨_, rfl⟩
  have HX2 := Lib.hid hX2
  have X2L := Lib.hid (show X2.length = 9 by rw [← hX2]; rfl)
  have HKM := Lib.hid hkk.2
  have D5 := Lib.hid (show CB w5.drew w3.heap.size 59 X2 by rw [← hX2, hkk.1]; exact C5.out)
  have DB := Lib.hid (show CB w5.drew w.heap.size 59 X from B5.out)
  have GD := Lib.hid (grown_drew G5.out)
  clear hkk hX2
  refine heldb_begin w5.drew.heap.size (by kernel_rfl) (fun hS1 => ?_)
  have GZ := Lib.hid (World.grownBy.refl w5.drew none)
  generalize w5.drew = wd at *
  cases ct with
  | true =>
    refine heldb_take (i := 0) (d := some 46) (v := ?vqr38z22x1) (by assumption) rfl rfl (by kernel_rfl) (fun _ _ _ h => h) ?yqr38z22x1 ?_; case yqr38z22x1 => (refine Or.inl ⟨rfl, fun wx hS => ?_⟩; go_simp; try with_reducible rfl)
    try simp only [Act.put, List.setIfInBounds_toArray, List.set_cons_zero, List.set_cons_succ]
    refine heldb_take (i := 1) (d := some 47) (v := ?vqr38z22x2) (by assumption) rfl rfl (by kernel_rfl) (fun _ _ _ h => h) ?yqr38z22x2 ?_; case yqr38z22x2 => (refine Or.inl ⟨rfl, fun wx hS => ?_⟩; go_simp; try with_reducible rfl)
    try simp only [Act.put, List.setIfInBounds_toArray, List.set_cons_zero, List.set_cons_succ]
    refine heldb_take (i := 2) (d := some 48) (v := ?vqr38z22x3) (by assumption) rfl rfl (by kernel_rfl) (fun _ _ _ h => h) ?yqr38z22x3 ?_; case yqr38z22x3 => (refine Or.inl ⟨rfl, fun wx hS => ?_⟩; go_simp; try with_reducible rfl)
    try simp only [Act.put, List.setIfInBounds_toArray, List.set_cons_zero, List.set_cons_succ]
    refine heldb_take (i := 3) (d := some 49) (v := _) (by assumption) rfl rfl (by kernel_rfl) (fun _ _ _ h => h) (yields_loadC (p := X2) (off := 0) aggKm (.tmp 5) rfl rfl (fun wx hx => D5.out.below hx D5.out.lt) (by rw [List.drop_zero]; exact List.take_of_length_le (by rw [X2L.out]; exact Nat.le_refl _)) (by rw [X2L.out]; omega) rfl) ?_
    try simp only [Act.put, List.setIfInBounds_toArray, List.set_cons_zero, List.set_cons_succ]
    first | refine heldb_skip (i := 6) (d := some 52) (by assumption) rfl rfl (by kernel_rfl) (fun _ _ _ h => h) rfl ?_ | (refine heldb_take (i := 6) (d := some 52) (v := ?vqr38z22x5) (by assumption) rfl rfl (by kernel_rfl) (fun _ _ _ h => h) ?yqr38z22x5 ?_; case yqr38z22x5 => (refine Or.inl ⟨rfl, fun wx hS => ?_⟩; go_simp; try with_reducible rfl))
    try simp only [Act.put, List.setIfInBounds_toArray, List.set_cons_zero, List.set_cons_succ]
    refine heldb_take (i := 7) (d := some 53) (v := _) (by assumption) rfl rfl (by kernel_rfl) (fun _ _ _ h => h) (yields_cell1 (by intro w; kernel_rfl) (.tmp 52) rfl rfl (ad := ⟨w.heap.size, 0, none⟩) (v := .int .i64 kd) (fun wx hx => (hx.cell (p := ⟨w.heap.size, 0, none⟩) DB.out.lt).trans (DB.out.at_ Xk.out)) rfl) ?_
    try simp only [Act.put, List.setIfInBounds_toArray, List.set_cons_zero, List.set_cons_succ]
    first | refine heldb_skip (i := 8) (d := some 54) (by assumption) rfl rfl (by kernel_rfl) (fun _ _ _ h => h) rfl ?_ | (refine heldb_take (i := 8) (d := some 54) (v := ?vqr38z22x7) (by assumption) rfl rfl (by kernel_rfl) (fun _ _ _ h => h) ?yqr38z22x7 ?_; case yqr38z22x7 => (refine Or.inl ⟨rfl, fun wx hS => ?_⟩; go_simp; try with_reducible rfl))
    try simp only [Act.put, List.setIfInBounds_toArray, List.set_cons_zero, List.set_cons_succ]
    refine heldb_one (i := 4) rfl (by kernel_rfl) rfl (fun K hK => ?_)
    go_simp
    rw [← HX2.out]
    refine (check_k M T2 tc2 S2 sc2 wd.heap.size _ (HM.out.below (below_of_none (grown_trans' GD.out GZ.out))) (HKM.out.kept GZ.out (Nat.le_refl _)) GZ.out.size HN2.out HC2.out HS2.out).mono ?_
    rw [HX2.out, HO2.out, if_pos rfl]
    rintro e wr38z22x8 ⟨rfl, gr38z22x9⟩
    have Gr38z22x10 := Lib.hid (grown_trans' GZ.out gr38z22x9)
    have hb := below_of_none Gr38z22x10.out
    refine hK.out _ _ hb (fun hSr38z22x11 => ?_)
    clear hb hK K
    try simp only [Act.put, List.setIfInBounds_toArray, List.set_cons_zero, List.set_cons_succ]
    clear gr38z22x9
    first | refine heldb_skip (i := 5) (d := some 51) (by assumption) rfl rfl (by kernel_rfl) (fun _ _ _ h => h) rfl ?_ | (refine heldb_take (i := 5) (d := some 51) (v := ?vqr38z22x12) (by assumption) rfl rfl (by kernel_rfl) (fun _ _ _ h => h) ?yqr38z22x12 ?_; case yqr38z22x12 => (refine Or.inl ⟨rfl, fun wx hS => ?_⟩; go_simp; try with_reducible rfl))
    try simp only [Act.put, List.setIfInBounds_toArray, List.set_cons_zero, List.set_cons_succ]
    refine heldb_one (i := 9) rfl (by kernel_rfl) rfl (fun K hK => ?_)
    go_simp
    refine (refHas_any kd 38 _).mono ?_
    rintro e wr38z22x13 ⟨rfl, gr38z22x14⟩
    rw [HCT.out]
    have Gr38z22x15 := Lib.hid (grown_trans' Gr38z22x10.out gr38z22x14)
    have hb := below_of_none Gr38z22x15.out
    refine hK.out _ _ hb (fun hSr38z22x16 => ?_)
    clear hb hK K
    try simp only [Act.put, List.setIfInBounds_toArray, List.set_cons_zero, List.set_cons_succ]
    clear gr38z22x14
    first | refine heldb_skip (i := 10) (d := some 56) (by assumption) rfl rfl (by kernel_rfl) (fun _ _ _ h => h) rfl ?_ | (refine heldb_take (i := 10) (d := some 56) (v := ?vqr38z22x17) (by assumption) rfl rfl (by kernel_rfl) (fun _ _ _ h => h) ?yqr38z22x17 ?_; case yqr38z22x17 => (refine Or.inl ⟨rfl, fun wx hS => ?_⟩; go_simp; try with_reducible rfl))
    try simp only [Act.put, List.setIfInBounds_toArray, List.set_cons_zero, List.set_cons_succ]
    refine heldb_take (i := 11) (d := some 57) (v := ?vqr38z22x18) (by assumption) rfl rfl (by kernel_rfl) (fun _ _ _ h => h) ?yqr38z22x18 ?_; case yqr38z22x18 => (refine Or.inl ⟨rfl, fun wx hS => ?_⟩; go_simp; try with_reducible rfl)
    try simp only [Act.put, List.setIfInBounds_toArray, List.set_cons_zero, List.set_cons_succ]
    refine heldb_take (i := 12) (d := some 4) (v := ?vqr38z22x19) (by assumption) rfl rfl (by kernel_rfl) (fun _ _ _ h => h) ?yqr38z22x19 ?_; case yqr38z22x19 => (refine Or.inl ⟨rfl, fun wx hS => ?_⟩; go_simp; try with_reducible rfl)
    try simp only [Act.put, List.setIfInBounds_toArray, List.set_cons_zero, List.set_cons_succ]
    refine held_end (by kernel_rfl) ?_ _
    go_wp2
    go_ret
    exact ⟨rfl, below_of_none (grown_trans' GD.out Gr38z22x15.out)⟩
  | false =>
    refine heldb_take (i := 0) (d := some 46) (v := ?vqr138z22x1) (by assumption) rfl rfl (by kernel_rfl) (fun _ _ _ h => h) ?yqr138z22x1 ?_; case yqr138z22x1 => (refine Or.inl ⟨rfl, fun wx hS => ?_⟩; go_simp; try with_reducible rfl)
    try simp only [Act.put, List.setIfInBounds_toArray, List.set_cons_zero, List.set_cons_succ]
    refine heldb_take (i := 1) (d := some 47) (v := ?vqr138z22x2) (by assumption) rfl rfl (by kernel_rfl) (fun _ _ _ h => h) ?yqr138z22x2 ?_; case yqr138z22x2 => (refine Or.inl ⟨rfl, fun wx hS => ?_⟩; go_simp; try with_reducible rfl)
    try simp only [Act.put, List.setIfInBounds_toArray, List.set_cons_zero, List.set_cons_succ]
    refine heldb_take (i := 2) (d := some 48) (v := ?vqr138z22x3) (by assumption) rfl rfl (by kernel_rfl) (fun _ _ _ h => h) ?yqr138z22x3 ?_; case yqr138z22x3 => (refine Or.inl ⟨rfl, fun wx hS => ?_⟩; go_simp; try with_reducible rfl)
    try simp only [Act.put, List.setIfInBounds_toArray, List.set_cons_zero, List.set_cons_succ]
    refine heldb_take (i := 3) (d := some 49) (v := _) (by assumption) rfl rfl (by kernel_rfl) (fun _ _ _ h => h) (yields_loadC (p := X2) (off := 0) aggKm (.tmp 5) rfl rfl (fun wx hx => D5.out.below hx D5.out.lt) (by rw [List.drop_zero]; exact List.take_of_length_le (by rw [X2L.out]; exact Nat.le_refl _)) (by rw [X2L.out]; omega) rfl) ?_
    try simp only [Act.put, List.setIfInBounds_toArray, List.set_cons_zero, List.set_cons_succ]
    first | refine heldb_skip (i := 6) (d := some 52) (by assumption) rfl rfl (by kernel_rfl) (fun _ _ _ h => h) rfl ?_ | (refine heldb_take (i := 6) (d := some 52) (v := ?vqr138z22x5) (by assumption) rfl rfl (by kernel_rfl) (fun _ _ _ h => h) ?yqr138z22x5 ?_; case yqr138z22x5 => (refine Or.inl ⟨rfl, fun wx hS => ?_⟩; go_simp; try with_reducible rfl))
    try simp only [Act.put, List.setIfInBounds_toArray, List.set_cons_zero, List.set_cons_succ]
    refine heldb_take (i := 7) (d := some 53) (v := _) (by assumption) rfl rfl (by kernel_rfl) (fun _ _ _ h => h) (yields_cell1 (by intro w; kernel_rfl) (.tmp 52) rfl rfl (ad := ⟨w.heap.size, 0, none⟩) (v := .int .i64 kd) (fun wx hx => (hx.cell (p := ⟨w.heap.size, 0, none⟩) DB.out.lt).trans (DB.out.at_ Xk.out)) rfl) ?_
    try simp only [Act.put, List.setIfInBounds_toArray, List.set_cons_zero, List.set_cons_succ]
    first | refine heldb_skip (i := 8) (d := some 54) (by assumption) rfl rfl (by kernel_rfl) (fun _ _ _ h => h) rfl ?_ | (refine heldb_take (i := 8) (d := some 54) (v := ?vqr138z22x7) (by assumption) rfl rfl (by kernel_rfl) (fun _ _ _ h => h) ?yqr138z22x7 ?_; case yqr138z22x7 => (refine Or.inl ⟨rfl, fun wx hS => ?_⟩; go_simp; try with_reducible rfl))
    try simp only [Act.put, List.setIfInBounds_toArray, List.set_cons_zero, List.set_cons_succ]
    refine heldb_one (i := 4) rfl (by kernel_rfl) rfl (fun K hK => ?_)
    go_simp
    rw [← HX2.out]
    refine (check_k M T2 tc2 S2 sc2 wd.heap.size _ (HM.out.below (below_of_none (grown_trans' GD.out GZ.out))) (HKM.out.kept GZ.out (Nat.le_refl _)) GZ.out.size HN2.out HC2.out HS2.out).mono ?_
    rw [HX2.out, HO2.out, if_neg (by simp)]
    rintro e wr138z22x8 ⟨rfl, gr138z22x9⟩
    have Gr138z22x10 := Lib.hid (grown_trans' GZ.out gr138z22x9)
    have hb := below_of_none Gr138z22x10.out
    refine hK.out _ _ hb (fun hSr138z22x11 => ?_)
    clear hb hK K
    try simp only [Act.put, List.setIfInBounds_toArray, List.set_cons_zero, List.set_cons_succ]
    clear gr138z22x9
    first | refine heldb_skip (i := 5) (d := some 51) (by assumption) rfl rfl (by kernel_rfl) (fun _ _ _ h => h) rfl ?_ | (refine heldb_take (i := 5) (d := some 51) (v := ?vqr138z22x12) (by assumption) rfl rfl (by kernel_rfl) (fun _ _ _ h => h) ?yqr138z22x12 ?_; case yqr138z22x12 => (refine Or.inl ⟨rfl, fun wx hS => ?_⟩; go_simp; try with_reducible rfl))
    try simp only [Act.put, List.setIfInBounds_toArray, List.set_cons_zero, List.set_cons_succ]
    refine heldb_one (i := 9) rfl (by kernel_rfl) rfl (fun K hK => ?_)
    go_simp
    refine (refHas_any kd 38 _).mono ?_
    rintro e wr138z22x13 ⟨rfl, gr138z22x14⟩
    rw [HCT.out]
    have Gr138z22x15 := Lib.hid (grown_trans' Gr138z22x10.out gr138z22x14)
    have hb := below_of_none Gr138z22x15.out
    refine hK.out _ _ hb (fun hSr138z22x16 => ?_)
    clear hb hK K
    try simp only [Act.put, List.setIfInBounds_toArray, List.set_cons_zero, List.set_cons_succ]
    clear gr138z22x14
    first | refine heldb_skip (i := 10) (d := some 56) (by assumption) rfl rfl (by kernel_rfl) (fun _ _ _ h => h) rfl ?_ | (refine heldb_take (i := 10) (d := some 56) (v := ?vqr138z22x17) (by assumption) rfl rfl (by kernel_rfl) (fun _ _ _ h => h) ?yqr138z22x17 ?_; case yqr138z22x17 => (refine Or.inl ⟨rfl, fun wx hS => ?_⟩; go_simp; try with_reducible rfl))
    try simp only [Act.put, List.setIfInBounds_toArray, List.set_cons_zero, List.set_cons_succ]
    refine heldb_take (i := 11) (d := some 57) (v := ?vqr138z22x18) (by assumption) rfl rfl (by kernel_rfl) (fun _ _ _ h => h) ?yqr138z22x18 ?_; case yqr138z22x18 => (refine Or.inl ⟨rfl, fun wx hS => ?_⟩; go_simp; try with_reducible rfl)
    try simp only [Act.put, List.setIfInBounds_toArray, List.set_cons_zero, List.set_cons_succ]
    refine heldb_take (i := 12) (d := some 4) (v := ?vqr138z22x19) (by assumption) rfl rfl (by kernel_rfl) (fun _ _ _ h => h) ?yqr138z22x19 ?_; case yqr138z22x19 => (refine Or.inl ⟨rfl, fun wx hS => ?_⟩; go_simp; try with_reducible rfl)
    try simp only [Act.put, List.setIfInBounds_toArray, List.set_cons_zero, List.set_cons_succ]
    refine held_end (by kernel_rfl) ?_ _
    go_wp2
    go_ret
    exact ⟨rfl, below_of_none (grown_trans' GD.out Gr138z22x15.out)⟩
set_option maxRecDepth 100000 in
set_option maxHeartbeats 4000000 in
theorem bare_39 (w : World) (hM : ML w) (m : Msg) (T : Option Addr) (tc : Nat) (S : Option Addr) (sc : Nat) (hk : KM w w.heap.size m T tc S sc) (hn : m.no < 18446744073709551616) (other : Int) (hg : greatK m = false) (ho : okK m = true) (hj : bits .and .i64 other 7 = 7) :
    Calls Tryd.prog 11 #[.agg (kcells m T tc S sc).toArray, .int .i64 other] w fun e w' => e = .returned (.bool true) ∧ Below w.heap.size w w' := by
  have HM := Lib.hid hM
  have HK := Lib.hid hk
  have HN := Lib.hid hn
  obtain ⟨X, hX⟩ : ∃ X, kcells m T tc S sc = X := ⟨_, rfl⟩
  have HX := Lib.hid hX
  have XL := Lib.hid (show X.length = 9 by rw [← hX]; rfl)
  have XO := Lib.hid (show ∀ u ∈ X, u.oneCell' = true by rw [← hX]; exact kcells_one m T tc S sc)
  have Xk := Lib.hid (show X[0]? = some (.int .i64 m.kd) by rw [← hX]; rfl)
  obtain ⟨kd, hkd⟩ : ∃ k, m.kd = k := ⟨_, rfl⟩
  have HKD := Lib.hid hkd
  rw [hkd] at Xk
  have B0 := Lib.hid (CB.new w 59 X)
  have G0 := Lib.hid (grown_alloc w (.cells X.toArray 59) none)
  rw [hX]
  have HG := Lib.hid hg
  have HOK := Lib.hid ho
  have HC := Lib.hid (show m.c.size ≤ 1000000 by have := greatK_lens hg; omega)
  have HS := Lib.hid (show m.s.size ≤ 1000000 by have := greatK_lens hg; omega)
  obtain ⟨M, hMM⟩ : ∃ M, { m with co := 1 } = M := ⟨_, rfl⟩
  obtain ⟨ct, hct⟩ : ∃ b, (tagsK kd).contains 39 = b := ⟨_, rfl⟩
  have HCT := Lib.hid hct
  have HO2 := Lib.hid (show okK M = ct by rw [← hMM, okK_with_co ho, hkd, hct])
  have HN2 := Lib.hid (show M.no < 18446744073709551616 by rw [← hMM]; exact hn)
  have HC2 := Lib.hid (show M.c.size ≤ 1000000 by rw [← hMM]; exact HC.out)
  have HS2 := Lib.hid (show M.s.size ≤ 1000000 by rw [← hMM]; exact HS.out)
  have XLT := Lib.hid (show 8 < X.length by rw [XL.out]; omega)
  have HXS := Lib.hid (show X.set 8 (.int .i64 1) = kcells M T tc S sc by rw [← hX, ← hMM]; rfl)
  have HMT := Lib.hid (show M.t = m.t ∧ M.sl = m.sl by rw [← hMM]; exact ⟨rfl, rfl⟩)
  clear hM hk hn hX hg ho hkd hMM hct
  go_enter Tryd.func11, Tryd.ntmps11
  go_wp2_with (first
    | (refine wpList_storeC (off := 8) (p := [.int .i64 1]) (by kernel_rfl) rfl (.tmp 45) (.const (.int .i64 1)) rfl (.int .i64 1) rfl (fun u hu => by rw [List.mem_singleton.1 hu]; rfl) C4.out rfl XLT.out (by first | rfl | go_simp) rfl ?_; intro w5 h5 g5; rw [over_one _ _ _ XLT.out, HXS.out] at h5; have C5 := Lib.hid h5; have GH := Lib.hid (none_new GG.out g5 (Nat.le_refl _)); have G5 := Lib.hid (grown_trans' G3.out GH.out); have B5 := Lib.hid (B3.out.kept GH.out); clear h5 g5)
    | (go_at_call 29; refine (kspeaks_any _ (HM.out.below (below_of_none G0.out))).mono ?_; rintro e w1 ⟨rfl, g⟩; have G1 := Lib.hid (grown_trans' G0.out g); have B1 := Lib.hid (B0.out.kept g); clear g)
    | refine wpList_loadC (off := 0) (p := X) aggKm rfl (.tmp 2) rfl B1.out (by rw [List.drop_zero]; exact List.take_of_length_le (by rw [XL.out]; exact Nat.le_refl _)) (by rw [XL.out]; omega) (by first | rfl | go_simp) ?_
    | (go_at_call 30; rw [← HX.out]; refine (great_k m T tc S sc _).mono ?_; rw [HX.out, HG.out]; rintro e w2 ⟨rfl, g⟩; have G2 := Lib.hid (grown_trans' G1.out g); have B2 := Lib.hid (B1.out.kept g); clear g)
    | refine wpList_loadCg (off := 0) (p := X) aggKm (by first | rfl | go_simp) (.tmp 2) rfl B2.out (by rw [List.drop_zero]; exact List.take_of_length_le (by rw [XL.out]; exact Nat.le_refl _)) (by rw [XL.out]; omega) (by first | rfl | go_simp) ?_
    | (go_at_call 33; rw [← HX.out]; refine (check_k m T tc S sc w.heap.size _ (HM.out.below (below_of_none G2.out)) (HK.out.kept G2.out (Nat.le_refl _)) G2.out.size HN.out HC.out HS.out).mono ?_; rw [HX.out, HOK.out, if_pos rfl]; rintro e w3 ⟨rfl, g⟩; have G3 := Lib.hid (grown_trans' G2.out g); have B3 := Lib.hid (B2.out.kept g); clear g)
    | refine wpList_loadC (off := 0) (p := X) aggKm rfl (.tmp 2) rfl B3.out (by rw [List.drop_zero]; exact List.take_of_length_le (by rw [XL.out]; exact Nat.le_refl _)) (by rw [XL.out]; omega) (by first | rfl | go_simp) ?_
    | refine wpList_allocC zeroKm rfl rfl ?_
    | (refine wpList_storeC (off := 0) (p := X) aggKm.hi rfl (.tmp 5) (.tmp 16) rfl (.agg X.toArray) rfl XO.out (CB.new w3 59 (kcells mZ9 none 0 none 0)) XL.out (by rw [kcells_length]; omega) (by first | rfl | go_simp) rfl ?_; intro w4 h4 g4; rw [over_all _ _ (by rw [XL.out]; exact Nat.le_refl _)] at h4; have C4 := Lib.hid h4; have GG := Lib.hid (none_new (grown_alloc w3 (.cells (kcells mZ9 none 0 none 0).toArray 59) none) g4 (Nat.le_refl _)); have G4 := Lib.hid (grown_trans' G3.out GG.out); have B4 := Lib.hid (B3.out.kept GG.out); clear h4 g4))
  obtain ⟨T2, tc2, S2, sc2, hkk⟩ : ∃ T2 tc2 S2 sc2, kcells M T2 tc2 S2 sc2 = kcells M T tc S sc ∧ KM w5.drew w5.drew.heap.size M T2 tc2 S2 sc2 := ⟨T, tc, S, sc, rfl, ⟨by rw [HMT.out.1]; exact (HK.out.1.kept G5.out (Nat.le_refl _)).more G5.out.size, by rw [HMT.out.2]; exact (HK.out.2.kept G5.out (Nat.le_refl _)).more G5.out.size⟩⟩
  obtain ⟨X2, hX2⟩ : ∃ X, kcells M T2 tc2 S2 sc2 = X := ⟨_, rfl⟩
  have HX2 := Lib.hid hX2
  have X2L := Lib.hid (show X2.length = 9 by rw [← hX2]; rfl)
  have HKM := Lib.hid hkk.2
  have D5 := Lib.hid (show CB w5.drew w3.heap.size 59 X2 by rw [← hX2, hkk.1]; exact C5.out)
  have DB := Lib.hid (show CB w5.drew w.heap.size 59 X from B5.out)
  have GD := Lib.hid (grown_drew G5.out)
  clear hkk hX2
  refine heldb_begin w5.drew.heap.size (by kernel_rfl) (fun hS1 => ?_)
  have GZ := Lib.hid (World.grownBy.refl w5.drew none)
  generalize w5.drew = wd at *
  cases ct with
  | true =>
    refine heldb_take (i := 0) (d := some 46) (v := ?vqr39z22x1) (by assumption) rfl rfl (by kernel_rfl) (fun _ _ _ h => h) ?yqr39z22x1 ?_; case yqr39z22x1 => (refine Or.inl ⟨rfl, fun wx hS => ?_⟩; go_simp; try with_reducible rfl)
    try simp only [Act.put, List.setIfInBounds_toArray, List.set_cons_zero, List.set_cons_succ]
    refine heldb_take (i := 1) (d := some 47) (v := ?vqr39z22x2) (by assumption) rfl rfl (by kernel_rfl) (fun _ _ _ h => h) ?yqr39z22x2 ?_; case yqr39z22x2 => (refine Or.inl ⟨rfl, fun wx hS => ?_⟩; go_simp; try with_reducible rfl)
    try simp only [Act.put, List.setIfInBounds_toArray, List.set_cons_zero, List.set_cons_succ]
    refine heldb_take (i := 2) (d := some 48) (v := ?vqr39z22x3) (by assumption) rfl rfl (by kernel_rfl) (fun _ _ _ h => h) ?yqr39z22x3 ?_; case yqr39z22x3 => (refine Or.inl ⟨rfl, fun wx hS => ?_⟩; go_simp; try with_reducible rfl)
    try simp only [Act.put, List.setIfInBounds_toArray, List.set_cons_zero, List.set_cons_succ]
    refine heldb_take (i := 3) (d := some 49) (v := _) (by assumption) rfl rfl (by kernel_rfl) (fun _ _ _ h => h) (yields_loadC (p := X2) (off := 0) aggKm (.tmp 5) rfl rfl (fun wx hx => D5.out.below hx D5.out.lt) (by rw [List.drop_zero]; exact List.take_of_length_le (by rw [X2L.out]; exact Nat.le_refl _)) (by rw [X2L.out]; omega) rfl) ?_
    try simp only [Act.put, List.setIfInBounds_toArray, List.set_cons_zero, List.set_cons_succ]
    first | refine heldb_skip (i := 6) (d := some 52) (by assumption) rfl rfl (by kernel_rfl) (fun _ _ _ h => h) rfl ?_ | (refine heldb_take (i := 6) (d := some 52) (v := ?vqr39z22x5) (by assumption) rfl rfl (by kernel_rfl) (fun _ _ _ h => h) ?yqr39z22x5 ?_; case yqr39z22x5 => (refine Or.inl ⟨rfl, fun wx hS => ?_⟩; go_simp; try with_reducible rfl))
    try simp only [Act.put, List.setIfInBounds_toArray, List.set_cons_zero, List.set_cons_succ]
    refine heldb_take (i := 7) (d := some 53) (v := _) (by assumption) rfl rfl (by kernel_rfl) (fun _ _ _ h => h) (yields_cell1 (by intro w; kernel_rfl) (.tmp 52) rfl rfl (ad := ⟨w.heap.size, 0, none⟩) (v := .int .i64 kd) (fun wx hx => (hx.cell (p := ⟨w.heap.size, 0, none⟩) DB.out.lt).trans (DB.out.at_ Xk.out)) rfl) ?_
    try simp only [Act.put, List.setIfInBounds_toArray, List.set_cons_zero, List.set_cons_succ]
    first | refine heldb_skip (i := 8) (d := some 54) (by assumption) rfl rfl (by kernel_rfl) (fun _ _ _ h => h) rfl ?_ | (refine heldb_take (i := 8) (d := some 54) (v := ?vqr39z22x7) (by assumption) rfl rfl (by kernel_rfl) (fun _ _ _ h => h) ?yqr39z22x7 ?_; case yqr39z22x7 => (refine Or.inl ⟨rfl, fun wx hS => ?_⟩; go_simp; try with_reducible rfl))
    try simp only [Act.put, List.setIfInBounds_toArray, List.set_cons_zero, List.set_cons_succ]
    refine heldb_one (i := 4) rfl (by kernel_rfl) rfl (fun K hK => ?_)
    go_simp
    rw [← HX2.out]
    refine (check_k M T2 tc2 S2 sc2 wd.heap.size _ (HM.out.below (below_of_none (grown_trans' GD.out GZ.out))) (HKM.out.kept GZ.out (Nat.le_refl _)) GZ.out.size HN2.out HC2.out HS2.out).mono ?_
    rw [HX2.out, HO2.out, if_pos rfl]
    rintro e wr39z22x8 ⟨rfl, gr39z22x9⟩
    have Gr39z22x10 := Lib.hid (grown_trans' GZ.out gr39z22x9)
    have hb := below_of_none Gr39z22x10.out
    refine hK.out _ _ hb (fun hSr39z22x11 => ?_)
    clear hb hK K
    try simp only [Act.put, List.setIfInBounds_toArray, List.set_cons_zero, List.set_cons_succ]
    clear gr39z22x9
    first | refine heldb_skip (i := 5) (d := some 51) (by assumption) rfl rfl (by kernel_rfl) (fun _ _ _ h => h) rfl ?_ | (refine heldb_take (i := 5) (d := some 51) (v := ?vqr39z22x12) (by assumption) rfl rfl (by kernel_rfl) (fun _ _ _ h => h) ?yqr39z22x12 ?_; case yqr39z22x12 => (refine Or.inl ⟨rfl, fun wx hS => ?_⟩; go_simp; try with_reducible rfl))
    try simp only [Act.put, List.setIfInBounds_toArray, List.set_cons_zero, List.set_cons_succ]
    refine heldb_one (i := 9) rfl (by kernel_rfl) rfl (fun K hK => ?_)
    go_simp
    refine (refHas_any kd 39 _).mono ?_
    rintro e wr39z22x13 ⟨rfl, gr39z22x14⟩
    rw [HCT.out]
    have Gr39z22x15 := Lib.hid (grown_trans' Gr39z22x10.out gr39z22x14)
    have hb := below_of_none Gr39z22x15.out
    refine hK.out _ _ hb (fun hSr39z22x16 => ?_)
    clear hb hK K
    try simp only [Act.put, List.setIfInBounds_toArray, List.set_cons_zero, List.set_cons_succ]
    clear gr39z22x14
    first | refine heldb_skip (i := 10) (d := some 56) (by assumption) rfl rfl (by kernel_rfl) (fun _ _ _ h => h) rfl ?_ | (refine heldb_take (i := 10) (d := some 56) (v := ?vqr39z22x17) (by assumption) rfl rfl (by kernel_rfl) (fun _ _ _ h => h) ?yqr39z22x17 ?_; case yqr39z22x17 => (refine Or.inl ⟨rfl, fun wx hS => ?_⟩; go_simp; try with_reducible rfl))
    try simp only [Act.put, List.setIfInBounds_toArray, List.set_cons_zero, List.set_cons_succ]
    refine heldb_take (i := 11) (d := some 57) (v := ?vqr39z22x18) (by assumption) rfl rfl (by kernel_rfl) (fun _ _ _ h => h) ?yqr39z22x18 ?_; case yqr39z22x18 => (refine Or.inl ⟨rfl, fun wx hS => ?_⟩; go_simp; try with_reducible rfl)
    try simp only [Act.put, List.setIfInBounds_toArray, List.set_cons_zero, List.set_cons_succ]
    refine heldb_take (i := 12) (d := some 4) (v := ?vqr39z22x19) (by assumption) rfl rfl (by kernel_rfl) (fun _ _ _ h => h) ?yqr39z22x19 ?_; case yqr39z22x19 => (refine Or.inl ⟨rfl, fun wx hS => ?_⟩; go_simp; try with_reducible rfl)
    try simp only [Act.put, List.setIfInBounds_toArray, List.set_cons_zero, List.set_cons_succ]
    refine held_end (by kernel_rfl) ?_ _
    go_wp2
    go_ret
    exact ⟨rfl, below_of_none (grown_trans' GD.out Gr39z22x15.out)⟩
  | false =>
    refine heldb_take (i := 0) (d := some 46) (v := ?vqr139z22x1) (by assumption) rfl rfl (by kernel_rfl) (fun _ _ _ h => h) ?yqr139z22x1 ?_; case yqr139z22x1 => (refine Or.inl ⟨rfl, fun wx hS => ?_⟩; go_simp; try with_reducible rfl)
    try simp only [Act.put, List.setIfInBounds_toArray, List.set_cons_zero, List.set_cons_succ]
    refine heldb_take (i := 1) (d := some 47) (v := ?vqr139z22x2) (by assumption) rfl rfl (by kernel_rfl) (fun _ _ _ h => h) ?yqr139z22x2 ?_; case yqr139z22x2 => (refine Or.inl ⟨rfl, fun wx hS => ?_⟩; go_simp; try with_reducible rfl)
    try simp only [Act.put, List.setIfInBounds_toArray, List.set_cons_zero, List.set_cons_succ]
    refine heldb_take (i := 2) (d := some 48) (v := ?vqr139z22x3) (by assumption) rfl rfl (by kernel_rfl) (fun _ _ _ h => h) ?yqr139z22x3 ?_; case yqr139z22x3 => (refine Or.inl ⟨rfl, fun wx hS => ?_⟩; go_simp; try with_reducible rfl)
    try simp only [Act.put, List.setIfInBounds_toArray, List.set_cons_zero, List.set_cons_succ]
    refine heldb_take (i := 3) (d := some 49) (v := _) (by assumption) rfl rfl (by kernel_rfl) (fun _ _ _ h => h) (yields_loadC (p := X2) (off := 0) aggKm (.tmp 5) rfl rfl (fun wx hx => D5.out.below hx D5.out.lt) (by rw [List.drop_zero]; exact List.take_of_length_le (by rw [X2L.out]; exact Nat.le_refl _)) (by rw [X2L.out]; omega) rfl) ?_
    try simp only [Act.put, List.setIfInBounds_toArray, List.set_cons_zero, List.set_cons_succ]
    first | refine heldb_skip (i := 6) (d := some 52) (by assumption) rfl rfl (by kernel_rfl) (fun _ _ _ h => h) rfl ?_ | (refine heldb_take (i := 6) (d := some 52) (v := ?vqr139z22x5) (by assumption) rfl rfl (by kernel_rfl) (fun _ _ _ h => h) ?yqr139z22x5 ?_; case yqr139z22x5 => (refine Or.inl ⟨rfl, fun wx hS => ?_⟩; go_simp; try with_reducible rfl))
    try simp only [Act.put, List.setIfInBounds_toArray, List.set_cons_zero, List.set_cons_succ]
    refine heldb_take (i := 7) (d := some 53) (v := _) (by assumption) rfl rfl (by kernel_rfl) (fun _ _ _ h => h) (yields_cell1 (by intro w; kernel_rfl) (.tmp 52) rfl rfl (ad := ⟨w.heap.size, 0, none⟩) (v := .int .i64 kd) (fun wx hx => (hx.cell (p := ⟨w.heap.size, 0, none⟩) DB.out.lt).trans (DB.out.at_ Xk.out)) rfl) ?_
    try simp only [Act.put, List.setIfInBounds_toArray, List.set_cons_zero, List.set_cons_succ]
    first | refine heldb_skip (i := 8) (d := some 54) (by assumption) rfl rfl (by kernel_rfl) (fun _ _ _ h => h) rfl ?_ | (refine heldb_take (i := 8) (d := some 54) (v := ?vqr139z22x7) (by assumption) rfl rfl (by kernel_rfl) (fun _ _ _ h => h) ?yqr139z22x7 ?_; case yqr139z22x7 => (refine Or.inl ⟨rfl, fun wx hS => ?_⟩; go_simp; try with_reducible rfl))
    try simp only [Act.put, List.setIfInBounds_toArray, List.set_cons_zero, List.set_cons_succ]
    refine heldb_one (i := 4) rfl (by kernel_rfl) rfl (fun K hK => ?_)
    go_simp
    rw [← HX2.out]
    refine (check_k M T2 tc2 S2 sc2 wd.heap.size _ (HM.out.below (below_of_none (grown_trans' GD.out GZ.out))) (HKM.out.kept GZ.out (Nat.le_refl _)) GZ.out.size HN2.out HC2.out HS2.out).mono ?_
    rw [HX2.out, HO2.out, if_neg (by simp)]
    rintro e wr139z22x8 ⟨rfl, gr139z22x9⟩
    have Gr139z22x10 := Lib.hid (grown_trans' GZ.out gr139z22x9)
    have hb := below_of_none Gr139z22x10.out
    refine hK.out _ _ hb (fun hSr139z22x11 => ?_)
    clear hb hK K
    try simp only [Act.put, List.setIfInBounds_toArray, List.set_cons_zero, List.set_cons_succ]
    clear gr139z22x9
    first | refine heldb_skip (i := 5) (d := some 51) (by assumption) rfl rfl (by kernel_rfl) (fun _ _ _ h => h) rfl ?_ | (refine heldb_take (i := 5) (d := some 51) (v := ?vqr139z22x12) (by assumption) rfl rfl (by kernel_rfl) (fun _ _ _ h => h) ?yqr139z22x12 ?_; case yqr139z22x12 => (refine Or.inl ⟨rfl, fun wx hS => ?_⟩; go_simp; try with_reducible rfl))
    try simp only [Act.put, List.setIfInBounds_toArray, List.set_cons_zero, List.set_cons_succ]
    refine heldb_one (i := 9) rfl (by kernel_rfl) rfl (fun K hK => ?_)
    go_simp
    refine (refHas_any kd 39 _).mono ?_
    rintro e wr139z22x13 ⟨rfl, gr139z22x14⟩
    rw [HCT.out]
    have Gr139z22x15 := Lib.hid (grown_trans' Gr139z22x10.out gr139z22x14)
    have hb := below_of_none Gr139z22x15.out
    refine hK.out _ _ hb (fun hSr139z22x16 => ?_)
    clear hb hK K
    try simp only [Act.put, List.setIfInBounds_toArray, List.set_cons_zero, List.set_cons_succ]
    clear gr139z22x14
    first | refine heldb_skip (i := 10) (d := some 56) (by assumption) rfl rfl (by kernel_rfl) (fun _ _ _ h => h) rfl ?_ | (refine heldb_take (i := 10) (d := some 56) (v := ?vqr139z22x17) (by assumption) rfl rfl (by kernel_rfl) (fun _ _ _ h => h) ?yqr139z22x17 ?_; case yqr139z22x17 => (refine Or.inl ⟨rfl, fun wx hS => ?_⟩; go_simp; try with_reducible rfl))
    try simp only [Act.put, List.setIfInBounds_toArray, List.set_cons_zero, List.set_cons_succ]
    refine heldb_take (i := 11) (d := some 57) (v := ?vqr139z22x18) (by assumption) rfl rfl (by kernel_rfl) (fun _ _ _ h => h) ?yqr139z22x18 ?_; case yqr139z22x18 => (refine Or.inl ⟨rfl, fun wx hS => ?_⟩; go_simp; try with_reducible rfl)
    try simp only [Act.put, List.setIfInBounds_toArray, List.set_cons_zero, List.set_cons_succ]
    refine heldb_take (i := 12) (d := some 4) (v := ?vqr139z22x19) (by assumption) rfl rfl (by kernel_rfl) (fun _ _ _ h => h) ?yqr139z22x19 ?_; case yqr139z22x19 => (refine Or.inl ⟨rfl, fun wx hS => ?_⟩; go_simp; try with_reducible rfl)
    try simp only [Act.put, List.setIfInBounds_toArray, List.set_cons_zero, List.set_cons_succ]
    refine held_end (by kernel_rfl) ?_ _
    go_wp2
    go_ret
    exact ⟨rfl, below_of_none (grown_trans' GD.out Gr139z22x15.out)⟩
theorem walk_KrbBare (w : World) (hM : ML w) (m : Msg) (T : Option Addr) (tc : Nat) (S : Option Addr) (sc : Nat) (hk : KM w w.heap.size m T tc S sc) (hn : m.no < 18446744073709551616) (_ : (Lit.int .i64 m.kd).wf = true) (_ : (Lit.int .i64 m.en).wf = true) (_ : (Lit.int .i64 m.fl).wf = true) (_ : (Lit.int .i64 m.co).wf = true) (other : Int) (_ : (Lit.int .i64 other).wf = true) :
    Calls Tryd.prog 11 #[.agg (kcells m T tc S sc).toArray, .int .i64 other] w fun e w' => e = .returned (.bool true) ∧ Below w.heap.size w w' := by
  cases hg : greatK m with
  | true => exact bare_great w hM m T tc S sc hk hn other hg
  | false =>
    cases ho : okK m with
    | false => exact bare_wrong w hM m T tc S sc hk hn other hg ho
    | true =>
      obtain ⟨j, hj, hb⟩ := and_low other 3 (by decide)
      have hb' : bits .and .i64 other 7 = (j : Int) := hb
      have hc : j = 0 ∨ j = 1 ∨ j = 2 ∨ j = 3 ∨ j = 4 ∨ j = 5 ∨ j = 6 ∨ j = 7 := by omega
      rcases hc with rfl | rfl | rfl | rfl | rfl | rfl | rfl | rfl
      · exact bare_32 w hM m T tc S sc hk hn other hg ho hb'
      · exact bare_33 w hM m T tc S sc hk hn other hg ho hb'
      · exact bare_34 w hM m T tc S sc hk hn other hg ho hb'
      · exact bare_35 w hM m T tc S sc hk hn other hg ho hb'
      · exact bare_36 w hM m T tc S sc hk hn other hg ho hb'
      · exact bare_37 w hM m T tc S sc hk hn other hg ho hb'
      · exact bare_38 w hM m T tc S sc hk hn other hg ho hb'
      · exact bare_39 w hM m T tc S sc hk hn other hg ho hb'
end Go.Proofs.YtnaoagiphehcaaaDoor
