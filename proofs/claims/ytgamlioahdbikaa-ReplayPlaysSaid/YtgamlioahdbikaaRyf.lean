/- The walk of ReplayFull. -/
import Derived.Test.YtgamlioahdbikaaRye
namespace Go.Proofs.Ytgamlioahdbikaa
open Go.RowKit Go.Maps

def xR : List UInt8 := [120, 64, 82]
theorem okF (now : Int) (h1 : 100 ≤ now) (h2 : now ≤ 549755813888) (k : Nat) (hk : k ≤ 100) : auOk (auF xR z16 now k) :=
  ⟨by simp [auF, xR], by simp [auF, z16], by show I64 (now + (k % 3 : Nat)); unfold I64; omega, by show 0 ≤ (k : Int) ∧ (k : Int) ≤ _; omega⟩
theorem auF_eq (now : Int) (k : Nat) : auF xR z16 now k = (xR, now + (k : Int) % 3, (k : Int), z16) := by
  unfold auF
  rw [Int.natCast_emod]
  rfl
def cellsF (t n : Int) : Array Value := #[.string ⟨#[120, 64, 82]⟩, .int .i64 t, .int .u64 n, .int .u8 0, .int .u8 0, .int .u8 0, .int .u8 0, .int .u8 0, .int .u8 0, .int .u8 0, .int .u8 0, .int .u8 0, .int .u8 0, .int .u8 0, .int .u8 0, .int .u8 0, .int .u8 0, .int .u8 0, .int .u8 0]
theorem cellsF_eq (t n : Int) : cellsF t n = (auC (xR, t, n, z16)).toArray := rfl
theorem stF_len (l k : List UInt8) (now : Int) (n : Nat) : (stF l k now n).M.length = n := by simp [stF]

set_option maxRecDepth 10000 in
set_option maxHeartbeats 2000000 in
theorem full_in (w : World) (n more now : Int) (h1 : 100 ≤ now) (h2 : now ≤ 549755813888) :
    Calls Try.prog 6 #[.int .i64 n, .int .i64 more, .int .i64 now] w fun e w' => e = .returned (.bool true) ∧ w.grownBy w' none := by
  have hm0 := i64_and15 n
  have hd0 := i64_and7 more
  obtain ⟨m, hm⟩ : ∃ m : Nat, n % 16 = (m : Int) := ⟨(n % 16).toNat, by omega⟩
  obtain ⟨d, hd⟩ : ∃ d : Nat, more % 8 = (d : Int) := ⟨(more % 8).toNat, by omega⟩
  rw [hm] at hm0
  rw [hd] at hd0
  have hmb : m ≤ 15 := by omega
  have hdb : d ≤ 7 := by omega
  have t1 : decide (now < 100) = false := decide_eq_false (by omega)
  have t2 : decide (549755813888 < now) = false := decide_eq_false (by omega)
  have N1 := Lib.hid h1
  have N2 := Lib.hid h2
  have IN := Lib.hid (show I64 now by unfold I64; omega)
  have HM0 := Lib.hid hm0
  have HD0 := Lib.hid hd0
  have HMB := Lib.hid hmb
  have HDB := Lib.hid hdb
  clear hm hd h1 h2 hm0 hd0 hmb hdb
  go_enter Try.func6, Try.ntmps6
  go_wp2_with (first
    | (go_at_call 7; refine (speaks_any _).mono ?_; rintro e wa ⟨rfl, ga⟩; have GA := Lib.hid ga; clear ga)
    | (go_at_call 9; refine (new_any 0 _).mono ?_; rintro e w1 ⟨rfl, h1, g1⟩; have H1 := Lib.hid h1; have G1 := Lib.hid (grown_trans' GA.out g1); clear h1 g1))
  clear t1 t2
  obtain ⟨c, hc⟩ : ∃ c, wa.heap.size + 1 = c := ⟨_, rfl⟩
  obtain ⟨b, hb⟩ : ∃ b, wa.heap.size = b := ⟨_, rfl⟩
  have HCE := Lib.hid (show w.heap.size ≤ c ∧ w.heap.size ≤ b by have := GA.out.size; omega)
  rw [hc, hb] at H1
  rw [hc]
  clear hc hb
  go_loopw [8] (fun v wr => ∃ k : Nat, k ≤ 16 + m ∧ v = .int .i64 k ∧ CS wr c b (stF xR z16 now (min k 16)) ∧ w.grownBy wr none) (fun v _ => (16 + m) - (intOf v).toNat)
  case atStart => exact ⟨0, Nat.zero_le _, rfl, H1.out, G1.out⟩
  case round =>
    obtain ⟨k, hk, rfl, hS, hW⟩ := hrel
    have HS := Lib.hid hS
    have HW := Lib.hid hW
    have HNC := Lib.hid (show wr.heap.size ≠ c from fun e => by have := hS.1.lt; omega)
    have HNB := Lib.hid (show wr.heap.size ≠ b from fun e => by have := hS.2.1.lt; omega)
    have hand := HM0.out
    have hmb := HMB.out
    have hn1 := N1.out
    have hn2 := N2.out
    clear hS hW
    by_cases hlt : k < 16 + m
    · have hbk : (k : Int) % 18446744073709551616 = (k : Int) := by omega
      obtain ⟨u, hu⟩ : ∃ u : Au, u = (xR, now + (k : Int) % 3, (k : Int), z16) := ⟨_, rfl⟩
      have huf : u = auF xR z16 now k := by rw [auF_eq]; exact hu
      have HU := Lib.hid (show auOk u by rw [huf]; exact okF now N1.out N2.out k (by omega))
      have HCZ := Lib.hid (show (Value.agg (cellsF (now + ↑k % 3) ↑k)).cells = (auC u).toArray by rw [hu, ← cellsF_eq]; rfl)
      by_cases h16 : k < 16
      · have HR := Lib.hid (show seenOf (stF xR z16 now (min k 16)) u now = (stF xR z16 now (min (k + 1) 16), 0) by rw [huf, Nat.min_eq_left (by omega), Nat.min_eq_left (by omega)]; exact full_new xR z16 now k h16)
        have d16 : decide ((k : Int) < 16) = true := decide_eq_true (by omega)
        clear hu huf
        go_wp2_with (first
        | refine wpList_allocC zeroA_run rfl rfl ?_
        | (refine wpList_storeC (off := 0) (p := auC u) aggA.hi rfl (.tmp 9) (.tmp 36) rfl (.agg (cellsF (now + ↑k % 3) ↑k)) HCZ.out (auC_one u) (CB.new wr 35 zeroA) (auC_length HU.out) (by rw [zeroA_length]; omega) (by first | rfl | go_simp) (by first | rfl | go_simp) ?_; intro w2 h2 g2; rw [over_all _ _ (Nat.le_of_eq (by rw [zeroA_length, auC_length HU.out]))] at h2; have B2 := Lib.hid h2; have S2 := Lib.hid ((HS.out.none (grown_alloc wr (.cells zeroA.toArray 35) none)).far g2 HNC.out HNB.out); have W2 := Lib.hid (none_new (grown_trans' HW.out (grown_alloc wr (.cells zeroA.toArray 35) none)) g2 HW.out.size); clear h2 g2)
        | refine wpList_loadC (off := 0) (p := auC u) aggA rfl (.tmp 9) rfl B2.out (take_all (auC_length HU.out)) (by rw [auC_length HU.out]; omega) (by first | rfl | go_simp) ?_
        | (go_at_call 12; refine (seen_at _ c b _ _ u now _ _ rfl S2.out HU.out IN.out (by rw [stF_len]; omega) HR.out).mono ?_; rintro e w3 ⟨rfl, h3, g3⟩; have S3 := Lib.hid h3; have W3 := Lib.hid (none_new W2.out g3 HCE.out.2); clear h3 g3))
        go_roundw
        case rel => exact ⟨k + 1, by omega, by go_num, S3.out, W3.out⟩
        case measure => simp [intOf]; omega
      · have HR := Lib.hid (show seenOf (stF xR z16 now (min k 16)) u now = (stF xR z16 now (min (k + 1) 16), 2) by rw [huf, Nat.min_eq_right (by omega), Nat.min_eq_right (by omega)]; exact full_more xR z16 now k (by omega))
        have d16 : decide ((k : Int) < 16) = false := decide_eq_false (by omega)
        clear hu huf
        go_wp2_with (first
        | refine wpList_allocC zeroA_run rfl rfl ?_
        | (refine wpList_storeC (off := 0) (p := auC u) aggA.hi rfl (.tmp 9) (.tmp 36) rfl (.agg (cellsF (now + ↑k % 3) ↑k)) HCZ.out (auC_one u) (CB.new wr 35 zeroA) (auC_length HU.out) (by rw [zeroA_length]; omega) (by first | rfl | go_simp) (by first | rfl | go_simp) ?_; intro w2 h2 g2; rw [over_all _ _ (Nat.le_of_eq (by rw [zeroA_length, auC_length HU.out]))] at h2; have B2 := Lib.hid h2; have S2 := Lib.hid ((HS.out.none (grown_alloc wr (.cells zeroA.toArray 35) none)).far g2 HNC.out HNB.out); have W2 := Lib.hid (none_new (grown_trans' HW.out (grown_alloc wr (.cells zeroA.toArray 35) none)) g2 HW.out.size); clear h2 g2)
        | refine wpList_loadC (off := 0) (p := auC u) aggA rfl (.tmp 9) rfl B2.out (take_all (auC_length HU.out)) (by rw [auC_length HU.out]; omega) (by first | rfl | go_simp) ?_
        | (go_at_call 12; refine (seen_at _ c b _ _ u now _ _ rfl S2.out HU.out IN.out (by rw [stF_len]; omega) HR.out).mono ?_; rintro e w3 ⟨rfl, h3, g3⟩; have S3 := Lib.hid h3; have W3 := Lib.hid (none_new W2.out g3 HCE.out.2); clear h3 g3))
        go_roundw
        case rel => exact ⟨k + 1, by omega, by go_num, S3.out, W3.out⟩
        case measure => simp [intOf]; omega
    · have hge : ¬ k < 16 + m := hlt
      have HS0 := Lib.hid (show CS wr c b (stF xR z16 now 16) by have := HS.out; rwa [Nat.min_eq_right (by omega)] at this)
      have HW0 := Lib.hid HW.out
      clear HS HW HNC HNB
      go_wp2
      clear hand hmb hk hlt hge hn1 hn2
      go_loopw [10] (fun v wr => ∃ k : Nat, k ≤ 16 ∧ v = .int .i64 k ∧ CS wr c b (stF xR z16 now 16) ∧ w.grownBy wr none) (fun v _ => 16 - (intOf v).toNat)
      case atStart => exact ⟨0, Nat.zero_le _, rfl, HS0.out, HW0.out⟩
      case round =>
        clear HS0 HW0
        obtain ⟨k2, hk2, rfl, hS, hW⟩ := hrel
        have HS := Lib.hid hS
        have HW := Lib.hid hW
        have hdand := HD0.out
        have hdb := HDB.out
        have hn1 := N1.out
        have hn2 := N2.out
        by_cases hlt : k2 < 16
        · have HNC := Lib.hid (show wr.heap.size ≠ c from fun e => by have := hS.1.lt; omega)
          have HNB := Lib.hid (show wr.heap.size ≠ b from fun e => by have := hS.2.1.lt; omega)
          have IND := Lib.hid (show I64 (now + (d : Int)) by unfold I64; omega)
          have hbk : (k2 : Int) % 18446744073709551616 = (k2 : Int) := by omega
          obtain ⟨u, hu⟩ : ∃ u : Au, u = (xR, now + (k2 : Int) % 3, (k2 : Int), z16) := ⟨_, rfl⟩
          have huf : u = auF xR z16 now k2 := by rw [auF_eq]; exact hu
          have HU := Lib.hid (show auOk u by rw [huf]; exact okF now N1.out N2.out k2 (by omega))
          have HCZ := Lib.hid (show (Value.agg (cellsF (now + ↑k2 % 3) ↑k2)).cells = (auC u).toArray by rw [hu, ← cellsF_eq]; rfl)
          have HR := Lib.hid (show seenOf (stF xR z16 now 16) u (now + (d : Int)) = (stF xR z16 now 16, 66) by rw [huf]; exact full_again xR z16 now d (by omega) (by omega) k2 hlt)
          clear hu huf hS hW
          go_wp2_with (first
          | refine wpList_allocC zeroA_run rfl rfl ?_
          | (refine wpList_storeC (off := 0) (p := auC u) aggA.hi rfl (.tmp 11) (.tmp 55) rfl (.agg (cellsF (now + ↑k2 % 3) ↑k2)) HCZ.out (auC_one u) (CB.new wr 35 zeroA) (auC_length HU.out) (by rw [zeroA_length]; omega) (by first | rfl | go_simp) (by first | rfl | go_simp) ?_; intro w2 h2 g2; rw [over_all _ _ (Nat.le_of_eq (by rw [zeroA_length, auC_length HU.out]))] at h2; have B2 := Lib.hid h2; have S2 := Lib.hid ((HS.out.none (grown_alloc wr (.cells zeroA.toArray 35) none)).far g2 HNC.out HNB.out); have W2 := Lib.hid (none_new (grown_trans' HW.out (grown_alloc wr (.cells zeroA.toArray 35) none)) g2 HW.out.size); clear h2 g2)
          | refine wpList_loadC (off := 0) (p := auC u) aggA rfl (.tmp 11) rfl B2.out (take_all (auC_length HU.out)) (by rw [auC_length HU.out]; omega) (by first | rfl | go_simp) ?_
          | (go_at_call 12; refine (seen_at _ c b _ _ u (now + (d : Int)) _ _ rfl S2.out HU.out IND.out (by rw [stF_len]; omega) HR.out).mono ?_; rintro e w3 ⟨rfl, h3, g3⟩; have S3 := Lib.hid h3; have W3 := Lib.hid (none_new W2.out g3 HCE.out.2); clear h3 g3))
          go_roundw
          case rel => exact ⟨k2 + 1, by omega, by go_num, S3.out, W3.out⟩
          case measure => simp [intOf]; omega
        · have HL := Lib.hid (stF_len xR z16 now 16)
          clear hS hW
          go_wp2_with (go_at_call 14; refine (len_any _ _ _ _ HS.out).mono ?_; rintro e w5 ⟨rfl, rfl⟩; rw [HL.out])
          go_ret
          exact ⟨rfl, HW.out⟩
set_option maxRecDepth 10000 in
set_option maxHeartbeats 400000 in
theorem full_out (w : World) (n more now : Int) (h : now < 100 ∨ 549755813888 < now) :
    Calls Try.prog 6 #[.int .i64 n, .int .i64 more, .int .i64 now] w fun e w' => e = .returned (.bool true) ∧ w.grownBy w' none := by
  by_cases h1 : now < 100
  · have t1 : decide (now < 100) = true := decide_eq_true h1
    clear h1 h
    go_enter Try.func6, Try.ntmps6
    go_wp2_with (go_at_call 7; refine (speaks_any _).mono ?_; rintro e wa ⟨rfl, ga⟩; have GA := Lib.hid ga; clear ga)
    go_ret
    exact ⟨rfl, GA.out⟩
  · have t1 : decide (now < 100) = false := decide_eq_false h1
    have t2 : decide (549755813888 < now) = true := decide_eq_true (by omega)
    clear h1 h
    go_enter Try.func6, Try.ntmps6
    go_wp2_with (go_at_call 7; refine (speaks_any _).mono ?_; rintro e wa ⟨rfl, ga⟩; have GA := Lib.hid ga; clear ga)
    go_ret
    exact ⟨rfl, GA.out⟩
theorem walk_ReplayFull (w : World) (n : Int) (_ : (Lit.int .i64 n).wf = true) (more : Int) (_ : (Lit.int .i64 more).wf = true) (now : Int) (_ : (Lit.int .i64 now).wf = true) :
    Calls Try.prog 6 #[.int .i64 n, .int .i64 more, .int .i64 now] w fun e w' => e = .returned (.bool true) ∧ Below w.heap.size w w' := by
  by_cases h : now < 100 ∨ 549755813888 < now
  · exact (full_out w n more now h).mono fun _ _ ⟨he, hg⟩ => ⟨he, below_of_none hg⟩
  · exact (full_in w n more now (by omega) (by omega)).mono fun _ _ ⟨he, hg⟩ => ⟨he, below_of_none hg⟩
end Go.Proofs.Ytgamlioahdbikaa
