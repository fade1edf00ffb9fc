/- The walk of the law SealNumbers. -/
import Derived.Test.YtaanhancjmigdaaDoorSen
namespace Go.Proofs.YtaanhancjmigdaaDoor
open Go.RowKit Go.Maps

set_option maxRecDepth 100000 in
set_option maxHeartbeats 8000000 in
theorem walk_SealNumbersN (w : World) (hTB : TB w) (key : List UInt8) (hk : key.length = 16) (A : Option Addr) (l : List UInt8) (cap : Nat) (hr : RB w w.heap.size A l cap) :
    Calls Tryd.prog 7 #[.bool false, .agg (bcells key).toArray, .slice A l.length cap] w fun e w' => e = .returned (.bool true) ∧ Below w.heap.size w w' := by
  obtain ⟨n, hn⟩ : ∃ n, l.length = n := ⟨_, rfl⟩
  rw [hn]
  have HN := Lib.hid hn
  have RW := Lib.hid hr
  have HK := Lib.hid hk
  have T0 := Lib.hid hTB
  have K0 := Lib.hid (CB.new w 23 (bcells key))
  have G0 := Lib.hid (grown_alloc w (.cells (bcells key).toArray 23) none)
  have HF := Lib.hid (show ∀ n m, n < 100 → m < 100 → (fun j => boxS key 1 j l) n = (fun j => boxS key 1 j l) m → n = m from fun n m h1 h2 h => boxS_inj (by omega) (by omega) h)
  have HFL := Lib.hid (show ∀ j, ((fun j => boxS key 1 j l) j).length = n + 24 from fun j => by rw [boxS_len, HN.out])
  have HPA := Lib.hid (show ∀ a, A = some a → l = [] ∨ a.block < w.heap.size from fun a ha => hr.lt_of a ha)
  have hmm := @run_makeMap Tryd.prog
  have TK0 := Lib.hid True.intro
  clear hk hn hr hTB
  by_cases hlong : 300 < n
  · have hni : (300 : Int) < (n : Int) := by omega
    clear hlong
    go_enter Tryd.func7, Tryd.ntmps7
    go_wp2_with (first
      | (go_at_call 9; refine (sspeaks_any _).mono ?_; rintro e w1 ⟨rfl, g⟩; have G1 := Lib.hid (grown_trans' G0.out g); clear g))
    go_ret
    exact ⟨rfl, below_of_none G1.out⟩
  have hni : ¬ (300 : Int) < (n : Int) := by omega
  have HL := Lib.hid (show n ≤ 300 by omega)
  obtain ⟨nb, hnb⟩ : ∃ q, n + 24 = q := ⟨_, rfl⟩
  have hwb : IntKind.i64.wrap ((n : Int) + 24) = (nb : Int) := by
    have h : IntKind.i64.wrap ((n : Int) + 24) = if 9223372036854775808 ≤ ((n : Int) + 24) % 18446744073709551616 then ((n : Int) + 24) % 18446744073709551616 - 18446744073709551616 else ((n : Int) + 24) % 18446744073709551616 := by
      simp [IntKind.wrap, IntKind.bits, IntKind.signed]
    rw [h]
    have := HL.out
    split <;> omega
  have HNB := Lib.hid hnb
  clear hlong hnb
  go_enter Tryd.func7, Tryd.ntmps7
  go_wp2_with (first
    | (go_at_call 9; refine (sspeaks_any _).mono ?_; rintro e w1 ⟨rfl, g⟩; have G1 := Lib.hid (grown_trans' G0.out g); have K1 := Lib.hid (K0.out.kept g); clear g)
    | (refine wpList_loadC (off := 0) (p := bcells key) aggKy rfl (.tmp 4) rfl K1.out (take_all (by rw [bcells_length]; exact HK.out)) (by rw [bcells_length, HK.out]; omega) (by first | rfl | go_simp) ?_)
    | (go_at_call 11; refine (snewS_any key HK.out _).mono ?_; rintro e w2 ⟨rfl, s2, g⟩; have S2 := Lib.hid s2; have G2 := Lib.hid (grown_trans' G1.out g); have K2 := Lib.hid (K1.out.kept g); clear g s2))
  obtain ⟨s, hs⟩ : ∃ s, w1.heap.size + 1 = s := ⟨_, rfl⟩
  rw [hs] at S2 ⊢
  obtain ⟨mb, hmb⟩ : ∃ s, w2.heap.size = s := ⟨_, rfl⟩
  have M2 := Lib.hid (MT.made (P := Tryd.prog) (k := 9) (kv := strS) (vv := boolV) w2)
  have G2m := Lib.hid (grown_alloc w2 (.map #[] 0) none)
  rw [hmb] at M2 ⊢
  have HSW := Lib.hid (show w.heap.size ≤ s by have := G1.out.size; omega)
  have HS0 := Lib.hid (show s ≠ 0 by omega)
  have HKS := Lib.hid (show w.heap.size ≠ s by have := G1.out.size; omega)
  have HSM := Lib.hid (show s ≠ mb by have := S2.out.2.lt; omega)
  have HMS := Lib.hid (show some mb ≠ some s by intro e; injection e with e; have := S2.out.2.lt; omega)
  have HMW := Lib.hid (show w.heap.size ≤ mb by have := G2.out.size; omega)
  have HKM := Lib.hid (show w.heap.size ≠ mb by have := S2.out.2.lt; have := G1.out.size; omega)
  clear hs hmb hmm
  go_loopw [9] (fun v wr => ∃ i : Nat, v = .int .i64 i ∧ i ≤ 5 ∧ SN wr s key 0 i ∧ MT Tryd.prog 9 strS boolV wr mb (numM (fun j => boxS key 1 j l) i) ∧ CB wr w.heap.size 23 (bcells key) ∧ w.grownBy wr none) (fun v _ => 5 - (intOf v).toNat)
  case atStart => exact ⟨0, rfl, Nat.zero_le _, ⟨HK.out, S2.out.2.kept G2m.out⟩, M2.out, K2.out.kept G2m.out, grown_trans' G2.out G2m.out⟩
  case round =>
    obtain ⟨i, rfl, hi, hss, hmt, hko, hg⟩ := hrel
    have SR := Lib.hid hss
    have MR := Lib.hid hmt
    have KR := Lib.hid hko
    have GR := Lib.hid hg
    have TR := Lib.hid (T0.out.grown hg (fun e => by cases e))
    clear hss hmt hko hg
    by_cases hlt : i < 5
    · have hlti : (i : Int) < 5 := by omega
      have HI := Lib.hid hlt
      have HNO := Lib.hid (numM_no HF.out (i := i) (by omega))
      have HNX := Lib.hid (numM_next HF.out (i := i) (by omega))
      have HBL := Lib.hid (show (boxS key 1 i l).length = nb by rw [← HNB.out]; exact HFL.out i)
      obtain ⟨b, hb⟩ : ∃ b, boxS key 1 i l = b := ⟨_, rfl⟩
      have HB := Lib.hid hb
      simp only [hb] at HNO HNX HBL
      have HOK := Lib.hid (okSS b (by rw [HBL.out]; have := HL.out; have := HNB.out; omega))
      have TK1 := Lib.hid True.intro
      clear hi hlt hb
      go_wp2_with (first
        | (have hx := TK1; clear hx; refine wpList_loadC (off := 0) (p := bcells key) aggKy rfl (.tmp 4) rfl KR.out (take_all (by rw [bcells_length]; exact HK.out)) (by rw [bcells_length, HK.out]; omega) (by first | rfl | go_simp) ?_; clear TK1; have TK2 := Lib.hid True.intro)
        | (go_at_call 15; have hx := TK2; clear hx; refine (sealS_any _ _ _ _ _ SR.out TR.out HS0.out key 1 A l n cap HK.out HN.out (RW.out.keptS GR.out) (fun a ha => (HPA.out a ha).imp id (fun q => by have := HSW.out; omega)) (by have := HL.out; omega) (by have := HI.out; omega)).mono ?_; rintro e w3 ⟨v, rfl, o, sn, g⟩; rw [HB.out] at o; obtain ⟨A3, c3, rfl, rb, -⟩ := o.shape; have s1 := run_strB byteT Tryd.underlying9 rb; rw [HBL.out] at s1; rw [HBL.out]; have S3 := Lib.hid sn; have M3 := Lib.hid (MR.out.kept g HMS.out); have K3 := Lib.hid (KR.out.grown g HKS.out); have G3 := Lib.hid (none_new GR.out g HSW.out); clear o sn g rb TK2; have TK3 := Lib.hid True.intro)
        | (have hx := TK3; clear hx; refine wpList_look1Outg keyedSS strS_inj (by first | rfl | go_simp) (.tmp 37) (.tmp 39) rfl Tryd.underlying54 (z := .bool false) (fun _ => by kernel_rfl) M3.out (by first | rfl | go_simp) b HOK.out (by first | rfl | go_simp) HNO.out ?_; clear TK3; have TK4 := Lib.hid True.intro)
        | (have hx := TK4; clear hx; refine wpList_putM (vl := true) keyedSS strS_inj rfl (.tmp 62) (.tmp 64) _ rfl Tryd.underlying54 M3.out (by rw [numM_len]; have := HI.out; unfold maxLen; omega) (by first | rfl | go_simp) b (hok := HOK.out) (by first | rfl | go_simp) (by first | rfl | go_simp) ?_; intro w6 m6 t6; have g6 := t6.grown; rw [HNX.out] at m6; have M6 := Lib.hid m6; have S6 := Lib.hid (show SN w6 s key 0 (i + 1) from ⟨HK.out, S3.out.2.grown g6 HSM.out⟩); have K6 := Lib.hid (K3.out.grown g6 HKM.out); have G6 := Lib.hid (none_new G3.out g6 HMW.out); clear m6 t6 g6 TK4))
      go_roundw
      case rel => exact ⟨i + 1, by go_num, by have := HI.out; omega, S6.out, M6.out, K6.out, G6.out⟩
      case measure => have := HI.out; simp [intOf]; omega
    · have hlti : ¬ (i : Int) < 5 := by omega
      go_wp2
      go_ret
      exact ⟨rfl, below_of_none GR.out⟩
set_option maxRecDepth 100000 in
set_option maxHeartbeats 8000000 in
theorem walk_SealNumbersS (w : World) (hTB : TB w) (key : List UInt8) (hk : key.length = 16) (A : Option Addr) (l : List UInt8) (cap : Nat) (hr : RB w w.heap.size A l cap) :
    Calls Tryd.prog 7 #[.bool true, .agg (bcells key).toArray, .slice A l.length cap] w fun e w' => e = .returned (.bool true) ∧ Below w.heap.size w w' := by
  obtain ⟨n, hn⟩ : ∃ n, l.length = n := ⟨_, rfl⟩
  rw [hn]
  have HN := Lib.hid hn
  have RW := Lib.hid hr
  have HK := Lib.hid hk
  have T0 := Lib.hid hTB
  have K0 := Lib.hid (CB.new w 23 (bcells key))
  have G0 := Lib.hid (grown_alloc w (.cells (bcells key).toArray 23) none)
  have HF := Lib.hid (show ∀ n m, n < 100 → m < 100 → boxN n = boxN m → n = m from fun n m h1 h2 h => boxN_inj (by omega) (by omega) h)
  have HFL := Lib.hid (show ∀ j, (boxN j).length = 9 from fun j => boxN_len j)
  have HPA := Lib.hid (show ∀ a, A = some a → l = [] ∨ a.block < w.heap.size from fun a ha => hr.lt_of a ha)
  have hmm := @run_makeMap Tryd.prog
  have TK0 := Lib.hid True.intro
  clear hk hn hr hTB
  by_cases hlong : 300 < n
  · have hni : (300 : Int) < (n : Int) := by omega
    clear hlong
    go_enter Tryd.func7, Tryd.ntmps7
    go_wp2_with (first
      | (go_at_call 9; refine (sspeaks_any _).mono ?_; rintro e w1 ⟨rfl, g⟩; have G1 := Lib.hid (grown_trans' G0.out g); clear g))
    go_ret
    exact ⟨rfl, below_of_none G1.out⟩
  have hni : ¬ (300 : Int) < (n : Int) := by omega
  have HL := Lib.hid (show n ≤ 300 by omega)
  obtain ⟨nb, hnb⟩ : ∃ q, n + 24 = q := ⟨_, rfl⟩
  have hwb : IntKind.i64.wrap ((n : Int) + 24) = (nb : Int) := by
    have h : IntKind.i64.wrap ((n : Int) + 24) = if 9223372036854775808 ≤ ((n : Int) + 24) % 18446744073709551616 then ((n : Int) + 24) % 18446744073709551616 - 18446744073709551616 else ((n : Int) + 24) % 18446744073709551616 := by
      simp [IntKind.wrap, IntKind.bits, IntKind.signed]
    rw [h]
    have := HL.out
    split <;> omega
  have HNB := Lib.hid hnb
  clear hlong hnb
  go_enter Tryd.func7, Tryd.ntmps7
  go_wp2_with (first
    | (go_at_call 9; refine (sspeaks_any _).mono ?_; rintro e w1 ⟨rfl, g⟩; have G1 := Lib.hid (grown_trans' G0.out g); have K1 := Lib.hid (K0.out.kept g); clear g)
    | (refine wpList_loadC (off := 0) (p := bcells key) aggKy rfl (.tmp 4) rfl K1.out (take_all (by rw [bcells_length]; exact HK.out)) (by rw [bcells_length, HK.out]; omega) (by first | rfl | go_simp) ?_)
    | (go_at_call 11; refine (snew_any key _).mono ?_; rintro e w2 ⟨rfl, s2, g⟩; have S2 := Lib.hid s2; have G2 := Lib.hid (grown_trans' G1.out g); have K2 := Lib.hid (K1.out.kept g); clear g s2))
  obtain ⟨s, hs⟩ : ∃ s, w1.heap.size + 1 = s := ⟨_, rfl⟩
  rw [hs] at S2 ⊢
  obtain ⟨mb, hmb⟩ : ∃ s, w2.heap.size = s := ⟨_, rfl⟩
  have M2 := Lib.hid (MT.made (P := Tryd.prog) (k := 9) (kv := strS) (vv := boolV) w2)
  have G2m := Lib.hid (grown_alloc w2 (.map #[] 0) none)
  rw [hmb] at M2 ⊢
  have HSW := Lib.hid (show w.heap.size ≤ s by have := G1.out.size; omega)
  have HS0 := Lib.hid (show s ≠ 0 by omega)
  have HKS := Lib.hid (show w.heap.size ≠ s by have := G1.out.size; omega)
  have HSM := Lib.hid (show s ≠ mb by have := S2.out.lt; omega)
  have HMS := Lib.hid (show some mb ≠ some s by intro e; injection e with e; have := S2.out.lt; omega)
  have HMW := Lib.hid (show w.heap.size ≤ mb by have := G2.out.size; omega)
  have HKM := Lib.hid (show w.heap.size ≠ mb by have := S2.out.lt; have := G1.out.size; omega)
  clear hs hmb hmm
  have HRA := Lib.hid (show ∀ (r : Option Nat), (∀ z, r = some z → s ≤ z) → ∀ a, A = some a → (key, (1 : Int), l).2.2 = [] ∨ (a.block ≠ s ∧ r ≠ some a.block) from fun r hr a ha => (HPA.out a ha).imp id (fun q => ⟨by have := HSW.out; omega, fun e => by have := hr _ e; have := HSW.out; omega⟩))
  go_loopw [9] (fun v wr => ∃ i : Nat, v = .int .i64 i ∧ i ≤ 5 ∧ ∃ (T : List Te) (r : Option Nat), T.length = i ∧ r ≠ some mb ∧ SS wr s s r T 0 ∧ MT Tryd.prog 9 strS boolV wr mb (numM boxN i) ∧ CB wr w.heap.size 23 (bcells key) ∧ w.grownBy wr none) (fun v _ => 5 - (intOf v).toNat)
  case atStart => exact ⟨0, rfl, Nat.zero_le _, [], none, rfl, (fun e => by cases e), S2.out.none G2m.out, M2.out, K2.out.kept G2m.out, grown_trans' G2.out G2m.out⟩
  case round =>
    obtain ⟨i, rfl, hi, T, r, hTl, hrm, hss, hmt, hko, hg⟩ := hrel
    have SR := Lib.hid hss
    have HTL := Lib.hid hTl
    have HRM := Lib.hid hrm
    have MR := Lib.hid hmt
    have KR := Lib.hid hko
    have GR := Lib.hid hg
    clear hss hmt hko hg hrm hTl
    by_cases hlt : i < 5
    · have hlti : (i : Int) < 5 := by omega
      have HI := Lib.hid hlt
      have HNO := Lib.hid (numM_no HF.out (i := i) (by omega))
      have HNX := Lib.hid (numM_next HF.out (i := i) (by omega))
      have HBL := Lib.hid (HFL.out i)
      obtain ⟨b, hb⟩ : ∃ b, boxN i = b := ⟨_, rfl⟩
      have HB := Lib.hid (show boxN T.length = b by rw [HTL.out]; exact hb)
      simp only [hb] at HNO HNX HBL
      have HOK := Lib.hid (okSS b (by rw [HBL.out]; omega))
      have TK1 := Lib.hid True.intro
      clear hi hlt hb
      go_wp2_with (first
        | (have hx := TK1; clear hx; refine wpList_loadC (off := 0) (p := bcells key) aggKy rfl (.tmp 4) rfl KR.out (take_all (by rw [bcells_length]; exact HK.out)) (by rw [bcells_length, HK.out]; omega) (by first | rfl | go_simp) ?_; clear TK1; have TK2 := Lib.hid True.intro)
        | (go_at_call 15; have hx := TK2; clear hx; refine (seal_any _ _ _ _ _ _ SR.out (key, 1, l) A n cap HK.out HN.out (RW.out.keptS GR.out) (HRA.out _ (fun z hz => (SR.out.rlt z hz).1)) (by have := HL.out; omega) (by have := HI.out; have := HTL.out; omega)).mono ?_; rintro e w3 ⟨v, r3, rfl, o, s3, wr3, hr3⟩; rw [HB.out] at o; obtain ⟨A3, c3, rfl, rb, -⟩ := o.shape; have s1 := run_strB byteT Tryd.underlying9 rb; rw [HBL.out] at s1; rw [HBL.out]; have hko := SR.out.off_cells KR.out (by decide) (by decide); have S3 := Lib.hid s3; have HR3 := Lib.hid (show r3 ≠ some mb by have := HRM.out; rcases hr3 with rfl | ⟨g, rfl, hg⟩; exact this; (intro e; injection e with e; have := MR.out.lt; omega)); have M3 := Lib.hid (MR.out.wrs wr3 (fun e => HSM.out e.symm) HRM.out); have K3 := Lib.hid (KR.out.wrs wr3 hko.1 hko.2); have G3 := Lib.hid (wrs_new2 GR.out wr3 HSW.out (fun z hz => by have := (SR.out.rlt z hz).1; have := HSW.out; omega)); clear o s3 wr3 hr3 hko rb TK2; have TK3 := Lib.hid True.intro)
        | (have hx := TK3; clear hx; refine wpList_look1Outg keyedSS strS_inj (by first | rfl | go_simp) (.tmp 37) (.tmp 39) rfl Tryd.underlying54 (z := .bool false) (fun _ => by kernel_rfl) M3.out (by first | rfl | go_simp) b HOK.out (by first | rfl | go_simp) HNO.out ?_; clear TK3; have TK4 := Lib.hid True.intro)
        | (have hx := TK4; clear hx; refine wpList_putM (vl := true) keyedSS strS_inj rfl (.tmp 62) (.tmp 64) _ rfl Tryd.underlying54 M3.out (by rw [numM_len]; have := HI.out; unfold maxLen; omega) (by first | rfl | go_simp) b (hok := HOK.out) (by first | rfl | go_simp) (by first | rfl | go_simp) ?_; intro w6 m6 t6; have g6 := t6.grown; rw [HNX.out] at m6; have M6 := Lib.hid m6; have S6 := Lib.hid (S3.out.offMap M3.out g6 HR3.out); have K6 := Lib.hid (K3.out.grown g6 HKM.out); have G6 := Lib.hid (none_new G3.out g6 HMW.out); clear m6 t6 g6 TK4))
      go_roundw
      case rel => exact ⟨i + 1, by go_num, by have := HI.out; omega, _, _, by rw [List.length_append, HTL.out]; rfl, HR3.out, S6.out, M6.out, K6.out, G6.out⟩
      case measure => have := HI.out; simp [intOf]; omega
    · have hlti : ¬ (i : Int) < 5 := by omega
      go_wp2
      go_ret
      exact ⟨rfl, below_of_none GR.out⟩
theorem walk_SealNumbers (w : World) (hTB : TB w) (sy : Bool) (key : List UInt8) (hk : key.length = 16) (A : Option Addr) (l : List UInt8) (cap : Nat) (hr : RB w w.heap.size A l cap) :
    Calls Tryd.prog 7 #[.bool sy, .agg (bcells key).toArray, .slice A l.length cap] w fun e w' => e = .returned (.bool true) ∧ Below w.heap.size w w' := by
  cases sy
  · exact walk_SealNumbersN w hTB key hk A l cap hr
  · exact walk_SealNumbersS w hTB key hk A l cap hr
end Go.Proofs.YtaanhancjmigdaaDoor
