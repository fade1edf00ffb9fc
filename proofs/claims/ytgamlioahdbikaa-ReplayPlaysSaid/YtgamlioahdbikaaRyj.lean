/- The walk of ReplayOnce. -/
import Derived.Test.YtgamlioahdbikaaRyi
namespace Go.Proofs.Ytgamlioahdbikaa
open Go.RowKit Go.Maps

def setT (T : List Au) : List (Au × Bool) := T.map fun a => (a, true)
theorem keys_setT (T : List Au) : keysM (setT T) = T := by unfold keysM setT; rw [List.map_map]; exact List.map_id' T
theorem without_setT {T : List Au} {a : Au} (h : a ∉ T) : withoutM (setT T) a = setT T := by
  unfold withoutM
  refine List.filter_eq_self.2 fun p hp => decide_eq_true fun e => h ?_
  obtain ⟨x, hx, rfl⟩ := List.mem_map.1 hp
  rw [← e]; exact hx
theorem zeroBool_run (w : World) : (zeroValue 4).run Try.prog w = .ok (.bool false) w := by kernel_rfl
theorem greatO_len {l : List Op12} (h : greatO l = false) : l.length ≤ 100 := by
  unfold greatO at h
  rw [Bool.or_eq_false_iff, decide_eq_false_iff_not] at h
  omega
theorem greatO_au {l : List Op12} (h : greatO l = false) {o : Op12} (ho : o ∈ l) : o.2.1.1.length ≤ 100 := by
  unfold greatO at h
  rw [Bool.or_eq_false_iff] at h
  have := List.any_eq_false.1 h.2 o ho
  unfold longO at this
  rw [decide_eq_true_iff] at this
  omega

/-- What stands at the head of each round. -/
def RelJ (w : World) (c b tb : Nat) (k : Nat) (s : St) (T : List Au) (now : Int) (wr : World) : Prop :=
  CS wr c b s ∧ MT Try.prog 35 auV Value.bool wr tb (setT T) ∧ InvO s T now ∧ T.length ≤ k ∧ s.M.length ≤ 16 ∧ I64 now ∧ tb ≠ b ∧ tb ≠ c ∧ w.grownBy wr none

set_option maxRecDepth 10000 in
set_option maxHeartbeats 4000000 in
theorem once_in (w : World) (A : Option Addr) (l : List Op12) (n cap : Nat) (hn : l.length = n) (hA : SR w w.heap.size A 21 (l.map opC) cap) (hl : ∀ o ∈ l, opW o) (hg : greatO l = false) :
    Calls Try.prog 4 #[.slice A n cap] w fun e w' => e = .returned (.bool true) ∧ w.grownBy w' none := by
  have HN := Lib.hid hn
  have HA := Lib.hid hA
  have HL := Lib.hid hl
  have HG := Lib.hid hg
  have N0 := Lib.hid (show n ≤ 100 by rw [← hn]; exact greatO_len hg)
  have hmm := @run_makeMap Try.prog
  clear hn hA hl hg
  go_enter Try.func4, Try.ntmps4
  go_wp2_with (first
    | (go_at_call 7; refine (speaks_any _).mono ?_; rintro e wa ⟨rfl, ga⟩; have GA := Lib.hid ga; clear ga)
    | (go_at_call 8; refine (great_any _ A l n cap w.heap.size HN.out (HA.out.made GA.out (Nat.le_refl _)) GA.out.size HL.out).mono ?_; rintro e wb ⟨rfl, gb⟩; rw [HG.out]; have GB := Lib.hid (grown_trans' GA.out gb); clear gb)
    | (go_at_call 9; refine (new_any 0 _).mono ?_; rintro e w1 ⟨rfl, h1, g1⟩; have H1 := Lib.hid h1; have G1 := Lib.hid (grown_trans' GB.out g1); have Z1 := Lib.hid g1.size; clear h1 g1))
  obtain ⟨c, hc⟩ : ∃ c, wb.heap.size + 1 = c := ⟨_, rfl⟩
  obtain ⟨b, hb⟩ : ∃ b, wb.heap.size = b := ⟨_, rfl⟩
  have HCE := Lib.hid (show w.heap.size ≤ c ∧ w.heap.size ≤ b by have := GB.out.size; omega)
  rw [hc, hb] at H1
  rw [hc]
  have HM1 := Lib.hid (MT.made (P := Try.prog) (k := 35) (kv := auV) (vv := Value.bool) w1)
  have HS1 := Lib.hid (H1.out.none (grown_alloc w1 (.map #[] 0) none))
  have HG1 := Lib.hid (grown_trans' G1.out (grown_alloc w1 (.map #[] 0) none))
  have HTB := Lib.hid (show w1.heap.size ≠ b ∧ w1.heap.size ≠ c by have h1 := H1.out.1.lt; have h2 := H1.out.2.1.lt; omega)
  have HTW := Lib.hid (show w.heap.size ≤ w1.heap.size from G1.out.size)
  obtain ⟨tb, htb⟩ : ∃ tb, w1.heap.size = tb := ⟨_, rfl⟩
  rw [htb] at HM1 HTB HTW
  rw [htb]
  clear hc hb htb hmm Z1
  go_loopw [5, 18] (fun v5 v wr => ∃ (k : Nat) (s : St) (T : List Au) (now : Int), k ≤ n ∧ v = .int .i64 k ∧ v5 = .int .i64 now ∧ RelJ w c b tb k s T now wr) (fun _ v _ => n - (intOf v).toNat)
  case atStart => exact ⟨0, _, [], 0, Nat.zero_le _, rfl, rfl, HS1.out, HM1.out, (fun t h => by cases h), (by simp), (by simp), (by unfold I64; omega), HTB.out.1, HTB.out.2, HG1.out⟩
  case round =>
    obtain ⟨k, s, T, now, hk, rfl, rfl, hR⟩ := hrel
    have HR := Lib.hid hR
    clear hR
    have HW := Lib.hid HR.out.2.2.2.2.2.2.2.2
    have HS := Lib.hid HR.out.1
    have hn0 := N0.out
    by_cases hlt : k < n
    · obtain ⟨o, ho⟩ : ∃ o, o = l[k]'(by rw [HN.out]; exact hlt) := ⟨_, rfl⟩
      obtain ⟨ab, ao, hAe, hab, hcells⟩ := HA.out.elem (k := k) (by rw [List.length_map, HN.out]; exact hlt)
      have HOW := Lib.hid (show opW o by rw [ho]; exact HL.out _ (List.getElem_mem _))
      have HMEM := Lib.hid (show o ∈ l by rw [ho]; exact List.getElem_mem _)
      have hce : (l.map opC)[k]'(by rw [List.length_map, HN.out]; exact hlt) = opC o := by rw [List.getElem_map, ho]
      rw [hce] at hcells
      have HCELL := Lib.hid (show ∀ j v, (opC o)[j]? = some v → wr.cell? ⟨ab, ao + 21 * k + j, none⟩ = some v from fun j v hj => ((below_of_none HW.out).cell (p := ⟨ab, _, none⟩) hab).trans (hcells j v hj))
      have HNC := Lib.hid (show wr.heap.size ≠ c from fun e => by have := HS.out.1.lt; omega)
      have HNB := Lib.hid (show wr.heap.size ≠ b from fun e => by have := HS.out.2.1.lt; omega)
      have HNT := Lib.hid (show wr.heap.size ≠ tb from fun e => by have := HR.out.2.1.lt; omega)
      have HUO := Lib.hid (show auOk o.2.1 from HOW.out.au.ok (by have := greatO_au HG.out HMEM.out; omega))
      subst hAe
      clear hce hcells ho hab
      have HB1 := Lib.hid (CB.new wr 37 zeroO)
      have HI := Lib.hid (show I64 (max now o.2.2) by have h1 := HR.out.2.2.2.2.2.1; have h2 := HOW.out.now; unfold I64 at *; omega)
      have HV := Lib.hid (HR.out.2.2.1.now (show now ≤ max now o.2.2 by omega))
      have HTN := Lib.hid HR.out.2.2.2.2.2.2.1
      have HTC := Lib.hid HR.out.2.2.2.2.2.2.2.1
      cases hres : o.1 with
      | true =>
        have HRES := Lib.hid hres
        clear hres
        go_wp2_with (first
          | (refine wpList_loadX (p := opC o) aggO rfl (.tmp 20) rfl (b := ab) (off := ao + 21 * k) HCELL.out (opC_len HOW.out) (by first | rfl | go_simp) ?_)
          | refine wpList_allocC zeroO_run rfl rfl ?_
          | (refine wpList_storeC (off := 0) (p := opC o) aggO.hi rfl (.tmp 7) (.tmp 21) rfl (.agg (opC o).toArray) rfl (opC_one o) HB1.out (opC_len HOW.out) (by rw [zeroO_length]; omega) (by first | rfl | go_simp) (by first | rfl | go_simp) ?_; intro w2 h2 g2; rw [over_all _ _ (Nat.le_of_eq (by rw [zeroO_length, opC_len HOW.out]))] at h2; have B2 := Lib.hid h2; have q0 := (h2.at_ (opC_res o)).trans (by rw [HRES.out]); have q20 := h2.at_ (opC_now HOW.out); have W2 := Lib.hid (none_new (grown_trans' HW.out (grown_alloc wr (.cells zeroO.toArray 37) none)) g2 HW.out.size); have S2 := Lib.hid ((HS.out.none (grown_alloc wr (.cells zeroO.toArray 37) none)).far g2 HNC.out HNB.out); have T2 := Lib.hid ((HR.out.2.1.alloc (.cells zeroO.toArray 37)).kept g2 (fun e => HNT.out (by injection e with e; exact e.symm))); clear h2 g2)
          | (go_at_call 10; refine (restart_any _ c b s (max now o.2.2) S2.out HI.out).mono ?_; rintro e w3 ⟨rfl, h3, wx, gx, g3⟩; have S3 := Lib.hid h3; have T3 := Lib.hid ((T2.out.kept gx (fun e => HTN.out (by injection e))).kept g3 (fun e => HTC.out (by injection e))); have W3 := Lib.hid (none_new (none_new W2.out gx HCE.out.2) g3 HCE.out.1); clear h3 gx g3))
        go_roundw
        case rel => exact ⟨k + 1, _, T, _, by omega, by go_num, rfl, S3.out, T3.out, HV.out.restart, by have := HR.out.2.2.2.1; omega, by simp [restartOf], HI.out, HTN.out, HTC.out, W3.out⟩
        case measure => simp [intOf]; omega
      | false =>
        have HRES := Lib.hid hres
        obtain ⟨r, hr⟩ : ∃ r, r = seenOf s o.2.1 (max now o.2.2) := ⟨_, rfl⟩
        have HRE := Lib.hid hr
        have HV2 := Lib.hid (show InvO r.1 T (max now o.2.2) by rw [hr]; exact HV.out.seen o.2.1)
        have HM2 := Lib.hid (show r.1.M.length ≤ 16 by rw [hr]; exact seen_most HR.out.2.2.2.2.1)
        have d16 : decide ((16 : Int) < (r.1.M.length : Int)) = false := decide_eq_false (by have := HM2.out; omega)
        have HT16 := Lib.hid (show T.length ≤ k from HR.out.2.2.2.1)
        by_cases h0 : r.2 = 0
        · have HV3 := Lib.hid (show o.2.1 ∉ T ∧ InvO r.1 (T ++ [o.2.1]) (max now o.2.2) by rw [hr] at h0 ⊢; exact HV.out.taken o.2.1 h0)
          have H0 := Lib.hid h0
          have HWO := Lib.hid (without_setT HV3.out.1)
          clear hr h0 hres
          go_wp2_with (first
          | (refine wpList_loadX (p := opC o) aggO rfl (.tmp 20) rfl (b := ab) (off := ao + 21 * k) HCELL.out (opC_len HOW.out) (by first | rfl | go_simp) ?_)
          | refine wpList_allocC zeroO_run rfl rfl ?_
          | (refine wpList_storeC (off := 0) (p := opC o) aggO.hi rfl (.tmp 7) (.tmp 21) rfl (.agg (opC o).toArray) rfl (opC_one o) HB1.out (opC_len HOW.out) (by rw [zeroO_length]; omega) (by first | rfl | go_simp) (by first | rfl | go_simp) ?_; intro w2 h2 g2; rw [over_all _ _ (Nat.le_of_eq (by rw [zeroO_length, opC_len HOW.out]))] at h2; have B2 := Lib.hid h2; have q0 := (h2.at_ (opC_res o)).trans (by rw [HRES.out]); have q20 := h2.at_ (opC_now HOW.out); have W2 := Lib.hid (none_new (grown_trans' HW.out (grown_alloc wr (.cells zeroO.toArray 37) none)) g2 HW.out.size); have S2 := Lib.hid ((HS.out.none (grown_alloc wr (.cells zeroO.toArray 37) none)).far g2 HNC.out HNB.out); have T2 := Lib.hid ((HR.out.2.1.alloc (.cells zeroO.toArray 37)).kept g2 (fun e => HNT.out (by injection e with e; exact e.symm))); clear h2 g2)
          | refine wpList_loadC (off := 1) (p := auC o.2.1) aggA rfl (.tmp 32) rfl B2.out (opC_au HOW.out) (by rw [opC_len HOW.out]; omega) (by first | rfl | go_simp) ?_
          | (go_at_call 12; refine (seen_any _ c b s o.2.1 (max now o.2.2) S2.out HUO.out HI.out (by have := HR.out.2.2.2.2.1; omega)).mono ?_; intro e w3 h3; rw [← HRE.out] at h3; obtain ⟨rfl, h3, g3⟩ := h3; rw [H0.out]; have S3 := Lib.hid h3; have B3 := Lib.hid (B2.out.grown g3 HNB.out); have T3 := Lib.hid (T2.out.kept g3 (fun e => HTN.out (by injection e))); have W3 := Lib.hid (none_new W2.out g3 HCE.out.2); clear h3 g3 q0 q20)
          | refine wpList_loadC (off := 1) (p := auC o.2.1) aggA rfl (.tmp 38) rfl B3.out (opC_au HOW.out) (by rw [opC_len HOW.out]; omega) (by first | rfl | go_simp) ?_
          | refine wpList_look1Out keyedA auV_inj rfl _ _ rfl Try.underlying44 zeroBool_run T3.out rfl o.2.1 (key_au _ HUO.out) rfl (by rw [keys_setT]; exact HV3.out.1) ?_
          | refine wpList_loadC (off := 1) (p := auC o.2.1) aggA rfl (.tmp 42) rfl B3.out (opC_au HOW.out) (by rw [opC_len HOW.out]; omega) (by first | rfl | go_simp) ?_
          | (refine wpList_putM keyedA auV_inj rfl _ _ _ rfl Try.underlying44 T3.out (by have h1 := HT16.out; have h2 := N0.out; unfold setT maxLen; rw [List.length_map]; omega) rfl o.2.1 true (key_au _ HUO.out) rfl rfl ?_; intro w4 hM4 hT4; rw [HWO.out] at hM4; have T4 := Lib.hid hM4; have S4 := Lib.hid (S3.out.far hT4.grown HTC.out HTN.out); have W4 := Lib.hid (none_new W3.out hT4.grown HTW.out); clear hM4 hT4)
          | (go_at_call 14; refine (len_any _ _ _ _ S4.out).mono ?_; rintro e w5 ⟨rfl, rfl⟩))
          go_roundw
          case rel => exact ⟨k + 1, r.1, T ++ [o.2.1], _, by omega, by go_num, rfl, S4.out, (by rw [show setT (T ++ [o.2.1]) = setT T ++ [(o.2.1, true)] from List.map_append]; exact T4.out), HV3.out.2, by have := HT16.out; rw [List.length_append, List.length_singleton]; omega, HM2.out, HI.out, HTN.out, HTC.out, W4.out⟩
          case measure => simp [intOf]; omega
        · have n0 : (r.2 == 0) = false := by rw [beq_eq_false_iff_ne]; exact h0
          clear hr h0 hres
          go_wp2_with (first
          | (refine wpList_loadX (p := opC o) aggO rfl (.tmp 20) rfl (b := ab) (off := ao + 21 * k) HCELL.out (opC_len HOW.out) (by first | rfl | go_simp) ?_)
          | refine wpList_allocC zeroO_run rfl rfl ?_
          | (refine wpList_storeC (off := 0) (p := opC o) aggO.hi rfl (.tmp 7) (.tmp 21) rfl (.agg (opC o).toArray) rfl (opC_one o) HB1.out (opC_len HOW.out) (by rw [zeroO_length]; omega) (by first | rfl | go_simp) (by first | rfl | go_simp) ?_; intro w2 h2 g2; rw [over_all _ _ (Nat.le_of_eq (by rw [zeroO_length, opC_len HOW.out]))] at h2; have B2 := Lib.hid h2; have q0 := (h2.at_ (opC_res o)).trans (by rw [HRES.out]); have q20 := h2.at_ (opC_now HOW.out); have W2 := Lib.hid (none_new (grown_trans' HW.out (grown_alloc wr (.cells zeroO.toArray 37) none)) g2 HW.out.size); have S2 := Lib.hid ((HS.out.none (grown_alloc wr (.cells zeroO.toArray 37) none)).far g2 HNC.out HNB.out); have T2 := Lib.hid ((HR.out.2.1.alloc (.cells zeroO.toArray 37)).kept g2 (fun e => HNT.out (by injection e with e; exact e.symm))); clear h2 g2)
          | refine wpList_loadC (off := 1) (p := auC o.2.1) aggA rfl (.tmp 32) rfl B2.out (opC_au HOW.out) (by rw [opC_len HOW.out]; omega) (by first | rfl | go_simp) ?_
          | (go_at_call 12; refine (seen_any _ c b s o.2.1 (max now o.2.2) S2.out HUO.out HI.out (by have := HR.out.2.2.2.2.1; omega)).mono ?_; intro e w3 h3; rw [← HRE.out] at h3; obtain ⟨rfl, h3, g3⟩ := h3; have S3 := Lib.hid h3; have T3 := Lib.hid (T2.out.kept g3 (fun e => HTN.out (by injection e))); have W3 := Lib.hid (none_new W2.out g3 HCE.out.2); clear h3 g3 q0 q20)
          | (go_at_call 14; refine (len_any _ _ _ _ S3.out).mono ?_; rintro e w5 ⟨rfl, rfl⟩))
          go_roundw
          case rel => exact ⟨k + 1, r.1, T, _, by omega, by go_num, rfl, S3.out, T3.out, HV2.out, by have := HT16.out; omega, HM2.out, HI.out, HTN.out, HTC.out, W3.out⟩
          case measure => simp [intOf]; omega
    · go_wp2
      go_ret
      exact ⟨rfl, HW.out⟩

theorem once_out (w : World) (A : Option Addr) (l : List Op12) (n cap : Nat) (hn : l.length = n) (hA : SR w w.heap.size A 21 (l.map opC) cap) (hl : ∀ o ∈ l, opW o) (hg : greatO l = true) :
    Calls Try.prog 4 #[.slice A n cap] w fun e w' => e = .returned (.bool true) ∧ w.grownBy w' none := by
  have HN := Lib.hid hn
  have HA := Lib.hid hA
  have HL := Lib.hid hl
  have HG := Lib.hid hg
  clear hn hA hl hg
  go_enter Try.func4, Try.ntmps4
  go_wp2_with (first
    | (go_at_call 7; refine (speaks_any _).mono ?_; rintro e wa ⟨rfl, ga⟩; have GA := Lib.hid ga; clear ga)
    | (go_at_call 8; refine (great_any _ A l n cap w.heap.size HN.out (HA.out.made GA.out (Nat.le_refl _)) GA.out.size HL.out).mono ?_; rintro e wb ⟨rfl, gb⟩; rw [HG.out]; have GB := Lib.hid (grown_trans' GA.out gb); clear gb))
  go_ret
  exact ⟨rfl, GB.out⟩
theorem walk_ReplayOnce (w : World) (A : Option Addr) (l : List Op12) (cap : Nat) (hA : SR w w.heap.size A 21 (l.map opC) cap) (hl : ∀ o ∈ l, opW o) :
    Calls Try.prog 4 #[.slice A l.length cap] w fun e w' => e = .returned (.bool true) ∧ Below w.heap.size w w' := by
  cases hg : greatO l with
  | true => exact (once_out w A l l.length cap rfl hA hl hg).mono fun _ _ ⟨he, hg⟩ => ⟨he, below_of_none hg⟩
  | false => exact (once_in w A l l.length cap rfl hA hl hg).mono fun _ _ ⟨he, hg⟩ => ⟨he, below_of_none hg⟩
end Go.Proofs.Ytgamlioahdbikaa
