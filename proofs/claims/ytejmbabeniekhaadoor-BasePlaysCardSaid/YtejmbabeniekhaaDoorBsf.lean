/- The walk of BaseFull. -/
import Derived.Test.YtejmbabeniekhaaDoorBse
namespace Go.Proofs.YtejmbabeniekhaaDoor
open Go.RowKit Go.Maps Go.WideMaps

def cellsB (i : Nat) (l : Int) : Array Value := #[.string ⟨(nmB i).toArray⟩, .int .u8 0, .int .u8 0, .int .u8 0, .int .u8 0, .int .u8 0, .int .u8 0, .int .u8 0, .int .u8 0, .int .u8 0, .int .u8 0, .int .u8 0, .int .u8 0, .int .u8 0, .int .u8 0, .int .u8 0, .int .u8 0, .int .i64 l, .int .i64 0, .bool false]
theorem cellsB_eq (i : Nat) (l : Int) : cellsB i l = (enC (enB i l)).toArray := rfl
theorem getB {w : World} {c b : Nat} {M : Em} (h : BS w c b M) {e : En} (he : (e.1, e) ∈ M) (ho : e.2.2.2.2 = false) : getE M e.1 e true :=
  ⟨fun v hv _ => ⟨(key_mem h.2.1.1.1 he hv), rfl⟩, (fun v hv hf => by rw [← key_mem h.2.1.1.1 he hv, ho] at hf; cases hf), fun h2 => absurd (mem_keysM.2 ⟨_, he⟩) h2⟩

set_option maxRecDepth 10000 in
set_option maxHeartbeats 4000000 in
theorem walk_BaseFull (w : World) (hM : ML w) (n : Int) (_ : (Lit.int .i64 n).wf = true) (k : Int) (_ : (Lit.int .i64 k).wf = true) :
    Calls Tryd.prog 7 #[.int .i64 n, .int .i64 k] w fun e w' => e = .returned (.bool true) ∧ Below w.heap.size w w' := by
  have hand := b64_and7 n
  have hkan := b64_and15 k
  obtain ⟨m, hm⟩ : ∃ m : Nat, n % 8 = (m : Int) := ⟨(n % 8).toNat, by omega⟩
  obtain ⟨q, hq⟩ : ∃ q : Nat, k % 16 = (q : Int) := ⟨(k % 16).toNat, by omega⟩
  rw [hm] at hand
  rw [hq] at hkan
  have HAND := Lib.hid hand
  have HKAN := Lib.hid hkan
  have HMB := Lib.hid (show m ≤ 7 by omega)
  have HQB := Lib.hid (show q < 16 by omega)
  have HM := Lib.hid hM
  clear hm hq hM hand hkan
  go_enter Tryd.func7, Tryd.ntmps7
  go_wp2_with (first
    | (go_at_call 19; refine (bspeaks_any _ HM.out).mono ?_; rintro e wa ⟨rfl, ga⟩; have GA := Lib.hid ga; clear ga)
    | (go_at_call 21; refine (bnew_any _).mono ?_; rintro e w1 ⟨rfl, h1, g1⟩; have H1 := Lib.hid h1; have G1 := Lib.hid (grown_trans' GA.out g1); clear h1 g1))
  obtain ⟨c, hc⟩ : ∃ c, wa.heap.size + 1 = c := ⟨_, rfl⟩
  obtain ⟨b, hb⟩ : ∃ b, wa.heap.size = b := ⟨_, rfl⟩
  have HCE := Lib.hid (show w.heap.size ≤ b by have := GA.out.size; omega)
  rw [hc, hb] at H1
  rw [hc]
  clear hc hb
  go_loopw [6] (fun v wr => ∃ i : Nat, i ≤ 16 + m ∧ v = .int .i64 i ∧ BS wr c b (stB (min i 16)) ∧ w.grownBy wr none) (fun v _ => (16 + m) - (intOf v).toNat)
  case atStart => exact ⟨0, Nat.zero_le _, rfl, H1.out, G1.out⟩
  case round =>
    obtain ⟨i, hi, rfl, hS, hW⟩ := hrel
    have HS := Lib.hid hS
    have HW := Lib.hid hW
    have hmb := HMB.out
    have hand := HAND.out
    clear hS hW
    by_cases hlt : i < 16 + m
    · have HI := Lib.hid (show i < 26 by omega)
      have HEO := Lib.hid (enB_ok (i := i) (l := 1) (by omega) (by omega))
      have HST := Lib.hid (show (stB (min i 16)).length ≤ 1000000 by rw [stB_len]; omega)
      by_cases h16 : i < 16
      · have HR := Lib.hid (show putE (stB (min i 16)) (enB i 1) = (stB (min (i + 1) 16), 0) by rw [Nat.min_eq_left (by omega), Nat.min_eq_left (by omega)]; exact put_new h16)
        have d16 : decide ((i : Int) < 16) = true := decide_eq_true (by omega)
        go_wp2_with (first
          | (go_at_call 29; refine (letter_any i HI.out _).mono ?_; rintro e w2 ⟨rfl, g2⟩; have S2 := Lib.hid (HS.out.none g2); have W2 := Lib.hid (grown_trans' HW.out g2); clear g2)
          | (go_at_call 24; refine (put_at (enB i 1) HEO.out _ w HM.out W2.out c b _ S2.out HST.out _ (cellsB_eq i 1) _ _ HR.out).mono ?_; rintro e w3 ⟨rfl, h3, g3⟩; have S3 := Lib.hid h3; have W3 := Lib.hid (none_new W2.out g3 HCE.out); clear h3 g3))
        go_roundw
        case rel => exact ⟨i + 1, by omega, by go_num, S3.out, W3.out⟩
        case measure => simp [intOf]; omega
      · have HR := Lib.hid (show putE (stB (min i 16)) (enB i 1) = (stB (min (i + 1) 16), 2) by rw [Nat.min_eq_right (by omega), Nat.min_eq_right (by omega)]; exact put_more (by omega) (by rw [stB_len]; exact Nat.le_refl _) (fun h => by have := (stB_mem (by omega) (by omega)).1 h; omega))
        have d16 : decide ((i : Int) < 16) = false := decide_eq_false (by omega)
        go_wp2_with (first
          | (go_at_call 29; refine (letter_any i HI.out _).mono ?_; rintro e w2 ⟨rfl, g2⟩; have S2 := Lib.hid (HS.out.none g2); have W2 := Lib.hid (grown_trans' HW.out g2); clear g2)
          | (go_at_call 24; refine (put_at (enB i 1) HEO.out _ w HM.out W2.out c b _ S2.out HST.out _ (cellsB_eq i 1) _ _ HR.out).mono ?_; rintro e w3 ⟨rfl, h3, g3⟩; have S3 := Lib.hid h3; have W3 := Lib.hid (none_new W2.out g3 HCE.out); clear h3 g3))
        go_roundw
        case rel => exact ⟨i + 1, by omega, by go_num, S3.out, W3.out⟩
        case measure => simp [intOf]; omega
    · have hge : ¬ i < 16 + m := hlt
      have S0 := Lib.hid (show BS wr c b (stB 16) by have := HS.out; rwa [Nat.min_eq_right (by omega)] at this)
      obtain ⟨M2, M3, M4, r1, hin, r2, r3, r4, l4, l2, l3, hk2⟩ := full_end HQB.out
      have R1 := Lib.hid r1; have HIN := Lib.hid hin; have R2 := Lib.hid r2; have R3 := Lib.hid r3; have R4 := Lib.hid r4; have L4 := Lib.hid l4; have L2 := Lib.hid l2; have L3 := Lib.hid l3; have HK2 := Lib.hid hk2
      have HQ26 := Lib.hid (show q < 26 by have := HQB.out; omega)
      have HEQ := Lib.hid (enB_ok (i := q) (l := 2) (by omega) (by omega))
      have HE25 := Lib.hid (enB_ok (i := 25) (l := 1) (by omega) (by omega))
      have HE24 := Lib.hid (enB_ok (i := 24) (l := 1) (by omega) (by omega))
      have HLQ := Lib.hid (enC_length (e := enB q 2) (zeros_length 16))
      have HLZ := Lib.hid (enC_length (e := zeroEn) (zeros_length 16))
      have hkan := HKAN.out
      clear r1 hin r2 r3 r4 l4 l2 l3 hk2 HS
      go_wp2_with (first
        | (go_at_call 29; refine (letter_any q HQ26.out _).mono ?_; rintro e w2 ⟨rfl, g2⟩; have S2 := Lib.hid (S0.out.none g2); have W2 := Lib.hid (grown_trans' HW.out g2); have TK0 := Lib.hid True.intro; clear g2)
        | (go_at_call 24; have hx := TK0; clear hx TK0; refine (put_at (enB q 2) HEQ.out _ w HM.out W2.out c b _ S2.out (by rw [stB_len]; omega) _ (cellsB_eq q 2) _ _ R1.out).mono ?_; rintro e w3 ⟨rfl, h3, g3⟩; have S3 := Lib.hid h3; have W3 := Lib.hid (none_new W2.out g3 HCE.out); clear h3 g3)
        | (go_at_call 26; refine (get_any (nmB q) (by show 3 ≤ 1000; omega) _ _ _ _ S3.out (enB q 2) true (getB (e := enB q 2) S3.out HIN.out rfl)).mono ?_; rintro x w4 ⟨rfl, g4⟩; have S4 := Lib.hid (S3.out.none g4); have W4 := Lib.hid (grown_trans' W3.out g4); have TK1 := Lib.hid True.intro; clear g4)
        | (have hx := TK1; clear hx TK1; refine wpList_allocC zeroE_run rfl rfl ?_; have TK2 := Lib.hid True.intro)
        | (have hx := TK2; clear hx TK2; refine wpList_storeC (off := 0) (p := enC (enB q 2)) aggE.hi rfl (.tmp 9) (.tmp 44) rfl (enV (enB q 2)) rfl (enC_one _) (CB.new w4 51 (enC zeroEn)) HLQ.out (by rw [HLZ.out]; omega) (by first | rfl | go_simp) (by first | rfl | go_simp) ?_; intro w5 h5 g5; rw [over_all _ _ (Nat.le_of_eq (by rw [HLZ.out, HLQ.out]))] at h5; have G5' := Lib.hid (none_new (grown_alloc w4 (.cells (enC zeroEn).toArray 51) none) g5 (Nat.le_refl _)); have S5 := Lib.hid (S4.out.none G5'.out); have W5 := Lib.hid (grown_trans' W4.out G5'.out); have B5 := Lib.hid h5; clear h5 g5)
        | (go_at_call 22; refine (drop_any (nmB q) (by show 3 ≤ 1000; omega) _ _ _ _ S5.out true ⟨fun _ => HK2.out, fun _ => rfl⟩).mono ?_; rintro x w6 ⟨rfl, h6, g6⟩; rw [R2.out] at h6; have S6 := Lib.hid h6; have W6 := Lib.hid (none_new W5.out g6 HCE.out); have p6 := (B5.out.grown g6 (fun e => by have := S4.out.lt; omega)).at_ (enC_life (e := enB q 2) (zeros_length 16)); have TK3 := Lib.hid True.intro; clear h6 g6)
        | (go_at_call 24; have hx := TK3; clear hx TK3; refine (put_at (enB 25 1) HE25.out _ w HM.out W6.out c b _ S6.out (by rw [L3.out]; omega) _ (cellsB_eq 25 1) _ _ R3.out).mono ?_; rintro e w7 ⟨rfl, h7, g7⟩; have S7 := Lib.hid h7; have W7 := Lib.hid (none_new W6.out g7 HCE.out); have TK4 := Lib.hid True.intro; clear h7 g7)
        | (go_at_call 24; have hx := TK4; clear hx TK4; refine (put_at (enB 24 1) HE24.out _ w HM.out W7.out c b _ S7.out (by rw [L4.out]; omega) _ (cellsB_eq 24 1) _ _ R4.out).mono ?_; rintro e w8 ⟨rfl, h8, g8⟩; have S8 := Lib.hid h8; have W8 := Lib.hid (none_new W7.out g8 HCE.out); clear h8 g8)
        | (go_at_call 28; refine (list_any _ _ _ _ S8.out (by rw [L4.out]; omega)).mono ?_; rintro x w9 ⟨v, ks, rfl, hk, hv, g9⟩; obtain ⟨A9, c9, hv9, -⟩ := hv.shape; have hkl : ks.length = 16 := by (rw [hk.1.length_eq]; unfold keysM; rw [List.length_map]; exact L4.out)
           rw [List.length_map, List.length_map, hkl] at hv9; subst hv9; have W9 := Lib.hid (grown_trans' W8.out g9); clear g9 hv hk hkl))
      go_ret
      exact ⟨rfl, below_of_none W9.out⟩
end Go.Proofs.YtejmbabeniekhaaDoor
