/- The walk of base's Get. -/
import Derived.Test.YtejmbabeniekhaaDoorBsb
namespace Go.Proofs.YtejmbabeniekhaaDoor
open Go.RowKit Go.Maps Go.WideMaps

/-- What Get answers. -/
def getE (M : Em) (n : List UInt8) (x : En) (B : Bool) : Prop := (∀ v, (n, v) ∈ M → v.2.2.2.2 = false → x = v ∧ B = true) ∧ (∀ v, (n, v) ∈ M → v.2.2.2.2 = true → x = zeroEn ∧ B = false) ∧ (n ∉ keysM M → x = zeroEn ∧ B = false)
set_option maxRecDepth 10000 in
set_option maxHeartbeats 2000000 in
theorem get_any (n : List UInt8) (hn : n.length ≤ 1000) (w : World) (c b : Nat) (M : Em) (h : BS w c b M) (x : En) (B : Bool) (hx : getE M n x B) :
    Calls Tryd.prog 26 #[.pointer (some ⟨c, 0, none⟩), strV n] w fun e w' => e = .returned (.tuple #[enV x, .bool B]) ∧ w.grownBy w' none := by
  have HOK := Lib.hid (okS n (by omega))
  have HBS := Lib.hid h
  have HLZ := Lib.hid (enC_length (e := zeroEn) (zeros_length 16))
  have TK0 := Lib.hid True.intro
  by_cases hin : n ∈ keysM M
  · obtain ⟨v, hv⟩ := mem_keysM.1 hin
    have HV := Lib.hid hv
    have HOV := Lib.hid (h.2.2.2 _ hv).2
    have HLV := Lib.hid (enC_length (h.2.2.2 _ hv).2.lk)
    have HOF := Lib.hid (enC_off (h.2.2.2 _ hv).2.lk)
    cases ho : v.2.2.2.2 with
    | true =>
      obtain ⟨rfl, rfl⟩ := hx.2.1 v hv ho
      have HO := Lib.hid ho
      clear h hn hin hv hx ho
      go_enter Tryd.func26, Tryd.ntmps26
      go_wp2_with (first
      | (refine wpList_allocC zeroE_run rfl rfl ?_; have hx := TK0; clear hx TK0; have TK1 := Lib.hid True.intro; have HZ := Lib.hid (CB.new w 51 (enC zeroEn)); have HG0 := Lib.hid (grown_alloc w (.cells (enC zeroEn).toArray 51) none); have S0 := Lib.hid (HBS.out.none HG0.out); have q0 := S0.out.1.at_ (i := 0) rfl)
      | refine wpList_lookIn keyedS strV_inj rfl _ _ rfl Tryd.underlying108 zeroE_run S0.out.2.1 rfl n v rfl HV.out ?_
      | (refine wpList_allocC zeroE_run rfl rfl ?_; have hx := TK1; clear hx TK1; have HN1 := Lib.hid (CB.new1 w (.cells (enC zeroEn).toArray 51) 51 (enC zeroEn)); have HZ1 := Lib.hid (HZ.out.alloc (.cells (enC zeroEn).toArray 51)); have HG1 := Lib.hid (grown_trans' HG0.out (grown_alloc _ (.cells (enC zeroEn).toArray 51) none)); clear q0)
      | (refine wpList_storeC (off := 0) (p := enC v) aggE.hi rfl (.tmp 6) (.tmp 15) rfl (.agg (enC v).toArray) rfl (enC_one v) HN1.out HLV.out (by rw [HLZ.out]; omega) (by first | rfl | go_simp) (by first | rfl | go_simp) ?_; intro w2 h2 g2; rw [over_all _ _ (by first | exact Nat.le_refl _ | exact Nat.le_of_eq (by rw [HLZ.out, HLV.out]))] at h2; have B2 := Lib.hid h2; have Z2 := Lib.hid (HZ1.out.grown g2 (by simp)); have G2 := Lib.hid (none_new HG1.out g2 (by simp)); have q4 := B2.out.at_ HOF.out; rw [HO.out] at q4; clear h2 g2)
      | (refine wpList_storeC (off := 0) (p := enC zeroEn) aggE.hi rfl (.tmp 4) (.tmp 23) rfl (.agg (enC zeroEn).toArray) rfl (enC_one zeroEn) Z2.out HLZ.out (by rw [HLZ.out]; omega) (by first | rfl | go_simp) (by first | rfl | go_simp) ?_; intro w3 h3 g3; rw [over_all _ _ (Nat.le_refl _)] at h3; have C3 := Lib.hid h3; have G3 := Lib.hid (none_new G2.out g3 (Nat.le_refl _)); clear h3 g3))
      refine bodyPost_ret (results_C2 rfl _ aggE C3.out HLZ.out rfl rfl) rfl ⟨rfl, G3.out⟩
    | false =>
      obtain ⟨rfl, rfl⟩ := hx.1 v hv ho
      have HO := Lib.hid ho
      clear h hn hin hv hx ho
      go_enter Tryd.func26, Tryd.ntmps26
      go_wp2_with (first
      | (refine wpList_allocC zeroE_run rfl rfl ?_; have hx := TK0; clear hx TK0; have TK1 := Lib.hid True.intro; have HZ := Lib.hid (CB.new w 51 (enC zeroEn)); have HG0 := Lib.hid (grown_alloc w (.cells (enC zeroEn).toArray 51) none); have S0 := Lib.hid (HBS.out.none HG0.out); have q0 := S0.out.1.at_ (i := 0) rfl)
      | refine wpList_lookIn keyedS strV_inj rfl _ _ rfl Tryd.underlying108 zeroE_run S0.out.2.1 rfl n x rfl HV.out ?_
      | (refine wpList_allocC zeroE_run rfl rfl ?_; have hx := TK1; clear hx TK1; have HN1 := Lib.hid (CB.new1 w (.cells (enC zeroEn).toArray 51) 51 (enC zeroEn)); have HZ1 := Lib.hid (HZ.out.alloc (.cells (enC zeroEn).toArray 51)); have HG1 := Lib.hid (grown_trans' HG0.out (grown_alloc _ (.cells (enC zeroEn).toArray 51) none)); clear q0)
      | (refine wpList_storeC (off := 0) (p := enC x) aggE.hi rfl (.tmp 6) (.tmp 15) rfl (.agg (enC x).toArray) rfl (enC_one x) HN1.out HLV.out (by rw [HLZ.out]; omega) (by first | rfl | go_simp) (by first | rfl | go_simp) ?_; intro w2 h2 g2; rw [over_all _ _ (by first | exact Nat.le_refl _ | exact Nat.le_of_eq (by rw [HLZ.out, HLV.out]))] at h2; have B2 := Lib.hid h2; have Z2 := Lib.hid (HZ1.out.grown g2 (by simp)); have G2 := Lib.hid (none_new HG1.out g2 (by simp)); have q4 := B2.out.at_ HOF.out; rw [HO.out] at q4; clear h2 g2)
      | (refine wpList_loadC (off := 0) (p := enC x) aggE rfl (.tmp 6) rfl B2.out (take_all HLV.out) (by rw [HLV.out]; omega) (by first | rfl | go_simp) ?_)
      | (go_at_call 57; refine (apart_any x HOV.out _).mono ?_; rintro r w4 ⟨rfl, g4⟩; have Z4 := Lib.hid (Z2.out.kept g4); have G4 := Lib.hid (grown_trans' G2.out g4); clear g4 q4)
      | (refine wpList_storeC (off := 0) (p := enC x) aggE.hi rfl (.tmp 4) (.tmp 25) rfl (.agg (enC x).toArray) rfl (enC_one x) Z4.out HLV.out (by rw [HLZ.out]; omega) (by first | rfl | go_simp) (by first | rfl | go_simp) ?_; intro w3 h3 g3; rw [over_all _ _ (by first | exact Nat.le_refl _ | exact Nat.le_of_eq (by rw [HLZ.out, HLV.out]))] at h3; have C3 := Lib.hid h3; have G3 := Lib.hid (none_new G4.out g3 (Nat.le_refl _)); clear h3 g3))
      refine bodyPost_ret (results_C2 rfl _ aggE C3.out HLV.out rfl rfl) rfl ⟨rfl, G3.out⟩
  · obtain ⟨rfl, rfl⟩ := hx.2.2 hin
    have HIN := Lib.hid hin
    clear h hn hin hx
    go_enter Tryd.func26, Tryd.ntmps26
    go_wp2_with (first
      | (refine wpList_allocC zeroE_run rfl rfl ?_; have hx := TK0; clear hx TK0; have TK1 := Lib.hid True.intro; have HZ := Lib.hid (CB.new w 51 (enC zeroEn)); have HG0 := Lib.hid (grown_alloc w (.cells (enC zeroEn).toArray 51) none); have S0 := Lib.hid (HBS.out.none HG0.out); have q0 := S0.out.1.at_ (i := 0) rfl)
      | refine wpList_lookOut keyedS strV_inj rfl _ _ rfl Tryd.underlying108 zeroE_run S0.out.2.1 rfl n HOK.out rfl HIN.out ?_
      | (refine wpList_allocC zeroE_run rfl rfl ?_; have hx := TK1; clear hx TK1; have HN1 := Lib.hid (CB.new1 w (.cells (enC zeroEn).toArray 51) 51 (enC zeroEn)); have HZ1 := Lib.hid (HZ.out.alloc (.cells (enC zeroEn).toArray 51)); have HG1 := Lib.hid (grown_trans' HG0.out (grown_alloc _ (.cells (enC zeroEn).toArray 51) none)); clear q0)
      | (refine wpList_storeC (off := 0) (p := enC zeroEn) aggE.hi rfl (.tmp 6) (.tmp 15) rfl (.agg (enC zeroEn).toArray) rfl (enC_one zeroEn) HN1.out HLZ.out (by rw [HLZ.out]; omega) (by first | rfl | go_simp) (by first | rfl | go_simp) ?_; intro w2 h2 g2; rw [over_all _ _ (by first | exact Nat.le_refl _ | exact Nat.le_of_eq (by rw [HLZ.out, HLZ.out]))] at h2; have B2 := Lib.hid h2; have Z2 := Lib.hid (HZ1.out.grown g2 (by simp)); have G2 := Lib.hid (none_new HG1.out g2 (by simp)); clear h2 g2)
      | (refine wpList_storeC (off := 0) (p := enC zeroEn) aggE.hi rfl (.tmp 4) (.tmp 23) rfl (.agg (enC zeroEn).toArray) rfl (enC_one zeroEn) Z2.out HLZ.out (by rw [HLZ.out]; omega) (by first | rfl | go_simp) (by first | rfl | go_simp) ?_; intro w3 h3 g3; rw [over_all _ _ (Nat.le_refl _)] at h3; have C3 := Lib.hid h3; have G3 := Lib.hid (none_new G2.out g3 (Nat.le_refl _)); clear h3 g3))
    refine bodyPost_ret (results_C2 rfl _ aggE C3.out HLZ.out rfl rfl) rfl ⟨rfl, G3.out⟩
end Go.Proofs.YtejmbabeniekhaaDoor
