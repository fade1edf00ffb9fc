/- The walk of the document's Sum under a secret. -/
import Derived.Test.YtndnmjolcilamaaDoorRsm
import Derived.Test.YtndnmjolcilamaaDoorRf3
namespace Go.Proofs.YtndnmjolcilamaaDoor
open Go.RowKit

section
variable {w a b w' : World} {row : Option Nat}
theorem OwnB.row' {base : Nat} {e : TypeId} {v : Value} {l : List UInt8} (h : OwnB w base e v l) (hg : w.grownBy w' row) (hne : v.ownBlock = none ∨ v.ownBlock ≠ row) : OwnB w' base e v l := World.ownsRow.kept h hg hne
theorem CB.row' {g : Nat} {t : TypeId} {cs : List Value} (h : CB w g t cs) (hg : w.grownBy w' row) (hne : row ≠ some g) : CB w' g t cs := (hg.block g h.lt (fun e => hne e.symm)).trans h
theorem grown_own (h : w.grownBy a none) (k : a.grownBy b row) (hr : ∀ x, row = some x → w.heap.size ≤ x) : w.grownBy b none := by
  rcases row with _ | x
  · exact grown_trans' h k
  · exact none_new h k (hr x rfl)
theorem new00 (wq : World) : OwnB ((wq.alloc (.cells #[] 5)).alloc (.cells #[] 5)) wq.heap.size 5 (.slice (some ⟨wq.heap.size + 1, 0, none⟩) 0 0) [] := by
  have h := OwnB.new0 (wq.alloc (.cells #[] 5)) wq.heap.size 5 (by rw [World.size_alloc]; exact Nat.le_succ _)
  rw [World.size_alloc] at h
  exact h
theorem own_ne {v9 v10 v6 : Option Nat} {B : Nat} (h1 : v10 = none ∨ v10 ≠ v9) (h2 : v9 = none ∨ v9 ≠ v10) (hat : v6 = v9 ∨ v6 = some B) (hlt : ∀ x, v10 = some x → x < B) : (v10 = none ∨ v10 ≠ v6) ∧ (v6 = none ∨ v6 ≠ v10) := by
  rcases hat with rfl | rfl
  · exact ⟨h1, h2⟩
  · exact ⟨.inr (fun e => by have := hlt B e; omega), .inr (fun e => by have := hlt B e.symm; omega)⟩
end

set_option maxRecDepth 10000 in
set_option maxHeartbeats 4000000 in
theorem refMac_any (n1 cap1 n2 cap2 : Nat) (A1 A2 : Option Addr) (l1 l2 : List UInt8) (w : World) (hn1 : l1.length = n1) (hc1 : n1 < 50000) (h1 : RB w w.heap.size A1 l1 cap1) (hn2 : l2.length = n2) (hc2 : n2 < 50000) (h2 : RB w w.heap.size A2 l2 cap2) :
    Calls Tryd.prog 33 #[.slice A1 n1 cap1, .slice A2 n2 cap2] w fun e w' => e = .returned (.agg (bcells (macOf l1 l2)).toArray) ∧ w.grownBy w' none := by
  have HN1 := Lib.hid hn1
  have HN2 := Lib.hid hn2
  have HC1 := Lib.hid hc1
  have HC2 := Lib.hid hc2
  have H1 := Lib.hid h1
  have H2 := Lib.hid h2
  obtain ⟨p, hp, hpl, hpe⟩ := fit_tail l1
  have HFT := Lib.hid hp
  have HPL := Lib.hid hpl
  have hmk := made64
  have HR0 := Lib.hid ((CB.new w 61 (bcells (zeros 32))).alloc (.cells (bcells (zeros 64)).toArray 5))
  have HK0 := Lib.hid (CB.new1 w (.cells (bcells (zeros 32)).toArray 61) 5 (bcells (zeros 64)))
  have HG0 := Lib.hid (grown_trans' (grown_alloc w (.cells (bcells (zeros 32)).toArray 61) none) (grown_alloc _ (.cells (bcells (zeros 64)).toArray 5) none))
  have HSET := Lib.hid (show ∀ (k : Nat) (u : UInt8), p[k]? = some u → (mix (fitOf l1) (zeros 64) k).set k u = mix (fitOf l1) (zeros 64) (k + 1) from fun k u hu => mix_set _ _ (by rw [fitOf_length, zeros_length]) k u (by rw [hp, List.getElem?_append_left (List.getElem?_eq_some_iff.1 hu).1]; exact hu))
  have HEND := Lib.hid (show mix (fitOf l1) (zeros 64) p.length = fitOf l1 by rw [hp]; exact mix_tail p hpl)
  have HMX := Lib.hid (show ∀ k, (mix (fitOf l1) (zeros 64) k).length = 64 from fun k => by rw [mix_length _ _ _ (by rw [fitOf_length, zeros_length]), zeros_length])
  clear h1 h2 hn1 hn2 hc1 hc2 hp
  by_cases hb : 64 < n1
  · have hbi : (64 : Int) < (n1 : Int) := by omega
    rw [if_pos (by rw [HN1.out]; exact hb)] at hpe
    subst hpe
    clear hpl
    go_enter Tryd.func33, Tryd.ntmps33
    go_wp2_with (first
      | refine wpList_allocC zeroB32 rfl rfl ?_
      | (go_at_call 48; refine (refSum_any n1 cap1 A1 l1 _ HN1.out (by have := HC1.out; omega) ((H1.out.kept HG0.out (Nat.le_refl _)).more HG0.out.size)).mono ?_; rintro e w3 ⟨rfl, g3⟩; have R3 := Lib.hid (HR0.out.kept g3); have K3 := Lib.hid (HK0.out.kept g3); have G3 := Lib.hid (grown_trans' HG0.out g3); clear g3)
      | (refine wpList_storeC (off := 0) (p := bcells (shaOf l1)) agg32.hi rfl (.tmp 6) (.tmp 18) rfl (.agg (bcells (shaOf l1)).toArray) rfl (bcells_one _) (CB.new w3 61 (bcells (zeros 32))) (by rw [bcells_length, shaOf_length]) (by rw [bcells_length, zeros_length]; omega) (by first | rfl | go_simp) rfl ?_; intro w4 h4 g4; rw [over_all _ _ (by rw [bcells_length, bcells_length, shaOf_length, zeros_length]; exact Nat.le_refl _)] at h4; have H4 := Lib.hid h4; have R4 := Lib.hid ((R3.out.alloc _).grown g4 (by have := R3.out.lt; omega)); have K4 := Lib.hid ((K3.out.alloc _).grown g4 (by have := K3.out.lt; omega)); have G4 := Lib.hid (none_new (grown_trans' G3.out (grown_alloc _ _ none)) g4 G3.out.size); clear h4 g4))
    have HLT3 := Lib.hid (show w.heap.size + 1 < w3.heap.size from K3.out.lt)
    clear hmk
    go_loopw [7] (fun i wr => ∃ k : Nat, i = .int .i64 k ∧ k ≤ 32 ∧ CB wr w.heap.size 61 (bcells (zeros 32)) ∧ CB wr (w.heap.size + 1) 5 (bcells (mix (fitOf l1) (zeros 64) k)) ∧ CB wr w3.heap.size 61 (bcells (shaOf l1)) ∧ w.grownBy wr none) (fun i _ => 32 - (intOf i).toNat)
    case atStart => exact ⟨0, rfl, by omega, R4.out, by rw [mix_zero]; exact K4.out, H4.out, G4.out⟩
    case round =>
      obtain ⟨k, rfl, hk, hr, hkk, hs, hg⟩ := hrel
      by_cases hlt : k < 32
      · obtain ⟨u, hu⟩ : ∃ u, (shaOf l1)[k]? = some u := ⟨_, List.getElem?_eq_getElem (by rw [shaOf_length]; exact hlt)⟩
        have cu := hs.at_ (bcells_some hu)
        have HSE := Lib.hid (HSET.out k u hu)
        have HXL := Lib.hid (show k < (bcells (mix (fitOf l1) (zeros 64) k)).length by rw [bcells_length, HMX.out]; omega)
        have hki : (k : Int) < 32 := by omega
        have hki2 : (k : Int) < 64 := by omega
        have HRr := Lib.hid hr
        have HKr := Lib.hid hkk
        have HSr := Lib.hid hs
        have HGr := Lib.hid hg
        have HLT := Lib.hid hlt
        clear hr hkk hs hg hk hlt hu
        go_wp2_with (refine wpList_setC sz8 rfl (.tmp 28) (.tmp 27) rfl .u8 (u.toNat : Int) HKr.out HXL.out rfl rfl ?_; intro w6 h6 g6; rw [bcells_set', HSE.out] at h6; have K6 := Lib.hid h6; have R6 := Lib.hid (HRr.out.grown g6 (by omega)); have S6 := Lib.hid (HSr.out.grown g6 (by have := HLT3.out; omega)); have G6 := Lib.hid (none_new HGr.out g6 (by omega)); clear h6 g6)
        go_roundw
        case rel => exact ⟨k + 1, by go_num, by have := HLT.out; omega, R6.out, K6.out, S6.out, G6.out⟩
        case measure => have := HLT.out; first | (simp [intOf]; done) | (simp [intOf]; omega)
      · obtain rfl : k = 32 := by omega
        rw [← shaOf_length l1, HEND.out] at hkk
        obtain ⟨wq, hwq⟩ : ∃ wq : World, wq = wr := ⟨_, rfl⟩
        rw [← hwq] at hr hkk hg ⊢
        have HR := Lib.hid hr
        have HK := Lib.hid hkk
        have HG := Lib.hid hg
        clear hr hkk hs hg hk hlt hwq
        rw [show ((32 : Nat) : Int) = 32 from rfl]
        have HF := Lib.hid (fitOf_length l1)
        have HQK := Lib.hid (show w.heap.size + 1 < wq.heap.size from HK.out.lt)
        have HQG := Lib.hid (show wq.grownBy wq none from ⟨rfl, rfl, rfl, Nat.le_refl _, fun _ _ _ => rfl⟩)
        go_wp2
        go_loopw [9, 10, 11] (fun v9 v10 i wr => ∃ (k : Nat) (A9 A10 : Option Addr) (c9 c10 : Nat), v9 = .slice A9 k c9 ∧ v10 = .slice A10 k c10 ∧ i = .int .i64 k ∧ k ≤ 64 ∧ OwnB wr wq.heap.size 5 (.slice A9 k c9) (turnOf ((fitOf l1).take k) 54) ∧ OwnB wr wq.heap.size 5 (.slice A10 k c10) (turnOf ((fitOf l1).take k) 92) ∧ ((Value.slice A10 k c10).ownBlock = none ∨ (Value.slice A10 k c10).ownBlock ≠ (Value.slice A9 k c9).ownBlock) ∧ ((Value.slice A9 k c9).ownBlock = none ∨ (Value.slice A9 k c9).ownBlock ≠ (Value.slice A10 k c10).ownBlock) ∧ CB wr w.heap.size 61 (bcells (zeros 32)) ∧ CB wr (w.heap.size + 1) 5 (bcells (fitOf l1)) ∧ w.grownBy wr none ∧ wq.heap.size ≤ wr.heap.size) (fun _ _ i _ => 64 - (intOf i).toNat)
        case atStart => exact ⟨0, _, _, _, _, rfl, rfl, rfl, by omega, (OwnB.new0 wq wq.heap.size _ (Nat.le_refl _)).alloc _, new00 wq, .inr (by simp [Value.ownBlock]), .inr (by simp [Value.ownBlock]), (HR.out.alloc _).alloc _, (HK.out.alloc _).alloc _, grown_trans' (grown_trans' HG.out (grown_alloc _ _ none)) (grown_alloc _ _ none), by rw [World.size_alloc, World.size_alloc]; exact Nat.le_trans (Nat.le_succ _) (Nat.le_succ _)⟩
        case round =>
          obtain ⟨k, A9, A10, c9, c10, rfl, rfl, rfl, hk, ho9, ho10, hne, hne2, hr, hkk, hg, hsz⟩ := hrel
          have HO9 := Lib.hid ho9
          have HO10 := Lib.hid ho10
          have HNE := Lib.hid hne
          have HNE2 := Lib.hid hne2
          have HRr := Lib.hid hr
          have HGr := Lib.hid hg
          have HSZ := Lib.hid hsz
          by_cases hlt : k < 64
          · obtain ⟨u, hu⟩ : ∃ u, (fitOf l1)[k]? = some u := ⟨_, List.getElem?_eq_getElem (by rw [HF.out]; exact hlt)⟩
            have cu := hkk.at_ (bcells_some hu)
            have CUF := Lib.hid (bcells_some hu)
            have x54 := xor_u8 u 54
            have x92 := xor_u8 u 92
            have h54 := turn_snoc (fitOf l1) 54 k u hu
            have h92 := turn_snoc (fitOf l1) 92 k u hu
            rw [show ((54 : UInt8).toNat : Int) = 54 from rfl] at x54
            rw [show ((92 : UInt8).toNat : Int) = 92 from rfl] at x92
            generalize u ^^^ 54 = z54 at x54 h54
            generalize u ^^^ 92 = z92 at x92 h92
            have HT54 := Lib.hid h54
            have HT92 := Lib.hid h92
            have HKr := Lib.hid hkk
            have HLT := Lib.hid hlt
            have hki : (k : Int) < 64 := by omega
            have HL9 := Lib.hid (show ∀ t, (turnOf ((fitOf l1).take k) t).length = k from fun t => by rw [turnOf_length, List.length_take, HF.out]; omega)
            have HL10 := Lib.hid (show ∀ t, (turnOf ((fitOf l1).take (k + 1)) t).length = k + 1 from fun t => by rw [turnOf_length, List.length_take, HF.out]; omega)
            clear ho9 ho10 hne hne2 hr hkk hg hk hlt hu h54 h92 hsz
            go_wp2_with (first
              | (at_builtin; refine wpList_appB byteT rfl (.tmp 48) (.tmp 54) rfl (HO9.out.alloc _) (RB.new1 wr 5 z54 (z54.toNat : Int) rfl (wr.heap.size + 1) (Nat.lt_succ_self _)) rfl rfl (by rw [HL9.out]; have := HLT.out; simp; omega) (by rw [World.size_alloc]; have := HSZ.out; omega) ?_; intro v6 w6 hown6 hg6 _ hat6; rw [HT54.out] at hown6; have O6 := Lib.hid hown6; have P6 := Lib.hid ((HO10.out.alloc _).row' hg6 HNE.out); have R6 := Lib.hid ((HRr.out.alloc _).row' hg6 (fun e => by have := (HO9.out.lt _ e).1; have := HQK.out; omega)); have K6 := Lib.hid ((HKr.out.alloc _).row' hg6 (fun e => by have := (HO9.out.lt _ e).1; have := HQK.out; omega)); have G6 := Lib.hid (grown_own (grown_trans' HGr.out (grown_alloc _ _ none)) hg6 (fun x hx => by have := (HO9.out.lt x hx).1; have := HQK.out; omega)); have S6 := Lib.hid (Nat.le_trans HSZ.out (Nat.le_trans (Nat.le_of_lt (by rw [World.size_alloc]; exact Nat.lt_succ_self _)) hg6.size)); have N6 := Lib.hid (own_ne HNE.out HNE2.out hat6 (fun x hx => ((HO10.out.alloc (.cells #[.int .u8 (z54.toNat : Int)] 5)).lt x hx).2)); clear hown6 hg6 hat6; obtain ⟨A6, c6, rfl, -, -⟩ := O6.out.shape; rw [HL10.out] at O6 N6 ⊢; have cu6 := K6.out.at_ CUF.out)
              | (at_builtin; refine wpList_appB byteT rfl (.tmp 56) (.tmp 62) rfl (P6.out.alloc _) (RB.new1 w6 5 z92 (z92.toNat : Int) rfl (w6.heap.size + 1) (Nat.lt_succ_self _)) rfl rfl (by rw [HL9.out]; have := HLT.out; simp; omega) (by rw [World.size_alloc]; have := S6.out; omega) ?_; intro v7 w7 hown7 hg7 _ hat7; rw [HT92.out] at hown7; have O7 := Lib.hid hown7; have P7 := Lib.hid ((O6.out.alloc _).row' hg7 N6.out.2); have R7 := Lib.hid ((R6.out.alloc _).row' hg7 (fun e => by have := (P6.out.lt _ e).1; have := HQK.out; omega)); have K7 := Lib.hid ((K6.out.alloc _).row' hg7 (fun e => by have := (P6.out.lt _ e).1; have := HQK.out; omega)); have G7 := Lib.hid (grown_own (grown_trans' G6.out (grown_alloc _ _ none)) hg7 (fun x hx => by have := (P6.out.lt x hx).1; have := HQK.out; omega)); have S7 := Lib.hid (Nat.le_trans S6.out (Nat.le_trans (Nat.le_of_lt (by rw [World.size_alloc]; exact Nat.lt_succ_self _)) hg7.size)); have N7 := Lib.hid (own_ne N6.out.2 N6.out.1 hat7 (fun x hx => ((O6.out.alloc (.cells #[.int .u8 (z92.toNat : Int)] 5)).lt x hx).2)); clear hown7 hg7 hat7; obtain ⟨A7, c7, rfl, -, -⟩ := O7.out.shape; rw [HL10.out] at O7 N7 ⊢))
            go_roundw
            case rel => exact ⟨k + 1, A6, A7, c6, c7, rfl, rfl, by go_num, by have := HLT.out; omega, P7.out, O7.out, N7.out.2, N7.out.1, R7.out, K7.out, G7.out, S7.out⟩
            case measure => have := HLT.out; first | (simp [intOf]; done) | (simp [intOf]; omega)
          · obtain rfl : k = 64 := by omega
            have ht : (fitOf l1).take 64 = fitOf l1 := List.take_of_length_le (by rw [HF.out]; exact Nat.le_refl _)
            rw [ht] at HO9 HO10
            have HTL := Lib.hid (show ∀ t, (turnOf (fitOf l1) t).length = 64 from fun t => by rw [turnOf_length, HF.out])
            obtain ⟨I, hI⟩ : ∃ I, I = digestOf (fitOf l1) 54 l2 := ⟨_, rfl⟩
            have HI := Lib.hid hI
            have HIL := Lib.hid (show I.length = 32 by rw [hI, digestOf_length])
            have HML := Lib.hid (macOf_length l1 l2)
            have HMM := Lib.hid (show shaOf (turnOf (fitOf l1) 92 ++ I) = macOf l1 l2 by rw [digest_sha, macOf, hI])
            obtain ⟨m1, hm1⟩ : ∃ m, (turnOf (fitOf l1) 54 ++ l2).length = m := ⟨_, rfl⟩
            obtain ⟨m2, hm2⟩ : ∃ m, (turnOf (fitOf l1) 92 ++ I).length = m := ⟨_, rfl⟩
            have HMA := Lib.hid hm1
            have HMC := Lib.hid hm2
            have HMA2 := Lib.hid (show m1 < 100000 by rw [← hm1, List.length_append, HTL.out, HN2.out]; have := HC2.out; omega)
            have HMC2 := Lib.hid (show m2 < 100000 by rw [← hm2, List.length_append, HTL.out, HIL.out]; omega)
            clear hm1 hm2
            obtain ⟨wo, hwo⟩ : ∃ wo : World, wo = wr := ⟨_, rfl⟩
            rw [← hwo] at HO9 HO10 HRr HGr HSZ ⊢
            clear ho9 ho10 hne hne2 hr hkk hg hk hlt hsz hI ht hwo
            go_wp2_with (first
              | (at_builtin; refine wpList_appB byteT rfl (.tmp 64) (.tmp 65) rfl HO9.out ((H2.out.kept HGr.out (Nat.le_refl _)).more HGr.out.size) rfl (by rw [HN2.out]; rfl) (by rw [HTL.out, HN2.out]; have := HC2.out; omega) HSZ.out ?_; intro v7 w7 hown7 hg7 _ _; have O7 := Lib.hid hown7; have P7 := Lib.hid (HO10.out.row' hg7 HNE.out); have R7 := Lib.hid (HRr.out.row' hg7 (fun e => by have := (HO9.out.lt _ e).1; have := HQK.out; omega)); have G7 := Lib.hid (grown_own HGr.out hg7 (fun x hx => by have := (HO9.out.lt x hx).1; have := HQK.out; omega)); have S7 := Lib.hid (Nat.le_trans HSZ.out hg7.size); clear hown7 hg7; obtain ⟨A7, c7, rfl, hr7, -⟩ := O7.out.shape; rw [HMA.out]; have Q7 := Lib.hid hr7; clear hr7)
              | (go_at_call 48; have hx := D9; clear hx; refine (refSum_any m2 c12 A12 (turnOf (fitOf l1) 92 ++ I) _ HMC.out HMC2.out Q12.out).mono ?_; rintro e w13 ⟨rfl, g13⟩; rw [HMM.out]; have R13 := Lib.hid (R12.out.kept g13); have G13 := Lib.hid (grown_trans' G12.out g13); clear g13)
              | (go_at_call 48; refine (refSum_any m1 c7 A7 (turnOf (fitOf l1) 54 ++ l2) _ HMA.out HMA2.out Q7.out).mono ?_; rintro e w8 ⟨rfl, g8⟩; rw [digest_sha, ← HI.out]; have P8 := Lib.hid (P7.out.row' (row := none) g8 (by cases hv : (Value.slice A10 64 c10).ownBlock <;> simp)); have R8 := Lib.hid (R7.out.kept g8); have G8 := Lib.hid (grown_trans' G7.out g8); have S8 := Lib.hid (Nat.le_trans S7.out g8.size); clear g8)
              | refine wpList_allocC zeroB32 rfl rfl ?_
              | (refine wpList_storeC (off := 0) (p := bcells I) agg32.hi rfl (.tmp 12) (.tmp 67) rfl (.agg (bcells I).toArray) rfl (bcells_one _) (CB.new w8 61 (bcells (zeros 32))) (by rw [bcells_length, HIL.out]) (by rw [bcells_length, zeros_length]; omega) (by first | rfl | go_simp) rfl ?_; intro w9 h9 g9; rw [over_all _ _ (by rw [bcells_length, bcells_length, HIL.out, zeros_length]; exact Nat.le_refl _)] at h9; have D9 := Lib.hid h9; have P9 := Lib.hid ((P8.out.alloc _).row' g9 (by
                    rcases hv : (Value.slice A10 64 c10).ownBlock with _ | x
                    · exact .inl rfl
                    · exact .inr (fun e => by injection e with e; have := (P8.out.lt x hv).2; omega))); have R9 := Lib.hid ((R8.out.alloc _).grown g9 (by have := R8.out.lt; omega)); have G9 := Lib.hid (none_new (grown_trans' G8.out (grown_alloc _ _ none)) g9 G8.out.size); have S9 := Lib.hid (Nat.le_trans S8.out (Nat.le_trans (Nat.le_of_lt (by rw [World.size_alloc]; exact Nat.lt_succ_self _)) g9.size)); clear h9 g9)
              | (at_builtin; refine wpList_appB byteT rfl (.tmp 68) (.tmp 69) rfl P9.out (RB.of_CB D9.out (by rw [HIL.out]; unfold maxLen; omega) HIL.out) rfl (by rw [HIL.out]; rfl) (by rw [HTL.out, HIL.out]; omega) S9.out ?_; intro v12 w12 hown12 hg12 _ _; have O12 := Lib.hid hown12; have R12 := Lib.hid (R9.out.row' hg12 (fun e => by have := (P9.out.lt _ e).1; have := HQK.out; omega)); have G12 := Lib.hid (grown_own G9.out hg12 (fun x hx => by have := (P9.out.lt x hx).1; have := HQK.out; omega)); clear hown12 hg12; obtain ⟨A12, c12, rfl, hr12, -⟩ := O12.out.shape; rw [HMC.out]; have Q12 := Lib.hid hr12; clear hr12)
              | (refine wpList_storeC (off := 0) (p := bcells (macOf l1 l2)) agg32.hi rfl (.tmp 4) (.tmp 71) rfl (.agg (bcells (macOf l1 l2)).toArray) rfl (bcells_one _) R13.out (by rw [bcells_length, HML.out]) (by rw [bcells_length, zeros_length]; omega) rfl rfl ?_; intro w14 h14 g14; rw [over_all _ _ (by rw [bcells_length, bcells_length, HML.out, zeros_length]; exact Nat.le_refl _)] at h14))
            exact bodyPost_ret (results_C Tryd.underlying61 agg32.hi rfl _ h14 (by rw [bcells_length, HML.out]) rfl) rfl ⟨rfl, none_new G13.out g14 (Nat.le_refl _)⟩
  · have hbi : ¬ (64 : Int) < (n1 : Int) := by omega
    rw [if_neg (by rw [HN1.out]; exact hb)] at hpe
    subst hpe
    clear hpl
    go_enter Tryd.func33, Tryd.ntmps33
    go_wp2_with (refine wpList_allocC zeroB32 rfl rfl ?_)
    clear hmk
    go_loopw [8] (fun i wr => ∃ k : Nat, i = .int .i64 k ∧ k ≤ n1 ∧ CB wr w.heap.size 61 (bcells (zeros 32)) ∧ CB wr (w.heap.size + 1) 5 (bcells (mix (fitOf p) (zeros 64) k)) ∧ w.grownBy wr none) (fun i _ => n1 - (intOf i).toNat)
    case atStart => exact ⟨0, rfl, Nat.zero_le _, HR0.out, by rw [mix_zero]; exact HK0.out, HG0.out⟩
    case round =>
      obtain ⟨k, rfl, hk, hr, hkk, hg⟩ := hrel
      by_cases hlt : k < n1
      · obtain ⟨b, off, rfl, hbl, hcell⟩ := H1.out.open_ (by rw [HN1.out]; omega)
        have hkl : k < p.length := by rw [HN1.out]; exact hlt
        have cu := (World.cell?_of_block (hg.block b hbl (fun e => by cases e))).trans (hcell k hkl)
        obtain ⟨u, hu⟩ : ∃ u, u = p[k] := ⟨_, rfl⟩
        rw [← hu] at cu
        have HSE := Lib.hid (HSET.out k u (by rw [hu]; exact List.getElem?_eq_getElem hkl))
        have HXL := Lib.hid (show k < (bcells (mix (fitOf p) (zeros 64) k)).length by rw [bcells_length, HMX.out]; omega)
        have hki : (k : Int) < (n1 : Int) := by omega
        have hki2 : (k : Int) < 64 := by omega
        have HRr := Lib.hid hr
        have HKr := Lib.hid hkk
        have HGr := Lib.hid hg
        have HLT := Lib.hid hlt
        clear hr hkk hg hk hlt hu hcell hkl hbl
        go_wp2_with (refine wpList_setC sz8 rfl (.tmp 41) (.tmp 40) rfl .u8 (u.toNat : Int) HKr.out HXL.out rfl rfl ?_; intro w6 h6 g6; rw [bcells_set', HSE.out] at h6; have K6 := Lib.hid h6; have R6 := Lib.hid (HRr.out.grown g6 (by omega)); have G6 := Lib.hid (none_new HGr.out g6 (by omega)); clear h6 g6)
        go_roundw
        case rel => exact ⟨k + 1, by go_num, by have := HLT.out; omega, R6.out, K6.out, G6.out⟩
        case measure => have := HLT.out; first | (simp [intOf]; done) | (simp [intOf]; omega)
      · obtain rfl : k = n1 := by omega
        have hkk2 : CB wr (w.heap.size + 1) 5 (bcells (fitOf p)) := by
          have h := HEND.out
          rw [HN1.out] at h
          rw [← h]
          exact hkk
        obtain ⟨wq, hwq⟩ : ∃ wq : World, wq = wr := ⟨_, rfl⟩
        rw [← hwq] at hr hkk2 hg ⊢
        have HR := Lib.hid hr
        have HK := Lib.hid hkk2
        have HG := Lib.hid hg
        clear hr hkk hkk2 hg hk hlt hwq
        have HF := Lib.hid (fitOf_length p)
        have HQK := Lib.hid (show w.heap.size + 1 < wq.heap.size from HK.out.lt)
        have HQG := Lib.hid (show wq.grownBy wq none from ⟨rfl, rfl, rfl, Nat.le_refl _, fun _ _ _ => rfl⟩)
        go_wp2
        go_loopw [9, 10, 11] (fun v9 v10 i wr => ∃ (k : Nat) (A9 A10 : Option Addr) (c9 c10 : Nat), v9 = .slice A9 k c9 ∧ v10 = .slice A10 k c10 ∧ i = .int .i64 k ∧ k ≤ 64 ∧ OwnB wr wq.heap.size 5 (.slice A9 k c9) (turnOf ((fitOf p).take k) 54) ∧ OwnB wr wq.heap.size 5 (.slice A10 k c10) (turnOf ((fitOf p).take k) 92) ∧ ((Value.slice A10 k c10).ownBlock = none ∨ (Value.slice A10 k c10).ownBlock ≠ (Value.slice A9 k c9).ownBlock) ∧ ((Value.slice A9 k c9).ownBlock = none ∨ (Value.slice A9 k c9).ownBlock ≠ (Value.slice A10 k c10).ownBlock) ∧ CB wr w.heap.size 61 (bcells (zeros 32)) ∧ CB wr (w.heap.size + 1) 5 (bcells (fitOf p)) ∧ w.grownBy wr none ∧ wq.heap.size ≤ wr.heap.size) (fun _ _ i _ => 64 - (intOf i).toNat)
        case atStart => exact ⟨0, _, _, _, _, rfl, rfl, rfl, by omega, (OwnB.new0 wq wq.heap.size _ (Nat.le_refl _)).alloc _, new00 wq, .inr (by simp [Value.ownBlock]), .inr (by simp [Value.ownBlock]), (HR.out.alloc _).alloc _, (HK.out.alloc _).alloc _, grown_trans' (grown_trans' HG.out (grown_alloc _ _ none)) (grown_alloc _ _ none), by rw [World.size_alloc, World.size_alloc]; exact Nat.le_trans (Nat.le_succ _) (Nat.le_succ _)⟩
        case round =>
          obtain ⟨k, A9, A10, c9, c10, rfl, rfl, rfl, hk, ho9, ho10, hne, hne2, hr, hkk, hg, hsz⟩ := hrel
          have HO9 := Lib.hid ho9
          have HO10 := Lib.hid ho10
          have HNE := Lib.hid hne
          have HNE2 := Lib.hid hne2
          have HRr := Lib.hid hr
          have HGr := Lib.hid hg
          have HSZ := Lib.hid hsz
          by_cases hlt : k < 64
          · obtain ⟨u, hu⟩ : ∃ u, (fitOf p)[k]? = some u := ⟨_, List.getElem?_eq_getElem (by rw [HF.out]; exact hlt)⟩
            have cu := hkk.at_ (bcells_some hu)
            have CUF := Lib.hid (bcells_some hu)
            have x54 := xor_u8 u 54
            have x92 := xor_u8 u 92
            have h54 := turn_snoc (fitOf p) 54 k u hu
            have h92 := turn_snoc (fitOf p) 92 k u hu
            rw [show ((54 : UInt8).toNat : Int) = 54 from rfl] at x54
            rw [show ((92 : UInt8).toNat : Int) = 92 from rfl] at x92
            generalize u ^^^ 54 = z54 at x54 h54
            generalize u ^^^ 92 = z92 at x92 h92
            have HT54 := Lib.hid h54
            have HT92 := Lib.hid h92
            have HKr := Lib.hid hkk
            have HLT := Lib.hid hlt
            have hki : (k : Int) < 64 := by omega
            have HL9 := Lib.hid (show ∀ t, (turnOf ((fitOf p).take k) t).length = k from fun t => by rw [turnOf_length, List.length_take, HF.out]; omega)
            have HL10 := Lib.hid (show ∀ t, (turnOf ((fitOf p).take (k + 1)) t).length = k + 1 from fun t => by rw [turnOf_length, List.length_take, HF.out]; omega)
            clear ho9 ho10 hne hne2 hr hkk hg hk hlt hu h54 h92 hsz
            go_wp2_with (first
              | (at_builtin; refine wpList_appB byteT rfl (.tmp 48) (.tmp 54) rfl (HO9.out.alloc _) (RB.new1 wr 5 z54 (z54.toNat : Int) rfl (wr.heap.size + 1) (Nat.lt_succ_self _)) rfl rfl (by rw [HL9.out]; have := HLT.out; simp; omega) (by rw [World.size_alloc]; have := HSZ.out; omega) ?_; intro v6 w6 hown6 hg6 _ hat6; rw [HT54.out] at hown6; have O6 := Lib.hid hown6; have P6 := Lib.hid ((HO10.out.alloc _).row' hg6 HNE.out); have R6 := Lib.hid ((HRr.out.alloc _).row' hg6 (fun e => by have := (HO9.out.lt _ e).1; have := HQK.out; omega)); have K6 := Lib.hid ((HKr.out.alloc _).row' hg6 (fun e => by have := (HO9.out.lt _ e).1; have := HQK.out; omega)); have G6 := Lib.hid (grown_own (grown_trans' HGr.out (grown_alloc _ _ none)) hg6 (fun x hx => by have := (HO9.out.lt x hx).1; have := HQK.out; omega)); have S6 := Lib.hid (Nat.le_trans HSZ.out (Nat.le_trans (Nat.le_of_lt (by rw [World.size_alloc]; exact Nat.lt_succ_self _)) hg6.size)); have N6 := Lib.hid (own_ne HNE.out HNE2.out hat6 (fun x hx => ((HO10.out.alloc (.cells #[.int .u8 (z54.toNat : Int)] 5)).lt x hx).2)); clear hown6 hg6 hat6; obtain ⟨A6, c6, rfl, -, -⟩ := O6.out.shape; rw [HL10.out] at O6 N6 ⊢; have cu6 := K6.out.at_ CUF.out)
              | (at_builtin; refine wpList_appB byteT rfl (.tmp 56) (.tmp 62) rfl (P6.out.alloc _) (RB.new1 w6 5 z92 (z92.toNat : Int) rfl (w6.heap.size + 1) (Nat.lt_succ_self _)) rfl rfl (by rw [HL9.out]; have := HLT.out; simp; omega) (by rw [World.size_alloc]; have := S6.out; omega) ?_; intro v7 w7 hown7 hg7 _ hat7; rw [HT92.out] at hown7; have O7 := Lib.hid hown7; have P7 := Lib.hid ((O6.out.alloc _).row' hg7 N6.out.2); have R7 := Lib.hid ((R6.out.alloc _).row' hg7 (fun e => by have := (P6.out.lt _ e).1; have := HQK.out; omega)); have K7 := Lib.hid ((K6.out.alloc _).row' hg7 (fun e => by have := (P6.out.lt _ e).1; have := HQK.out; omega)); have G7 := Lib.hid (grown_own (grown_trans' G6.out (grown_alloc _ _ none)) hg7 (fun x hx => by have := (P6.out.lt x hx).1; have := HQK.out; omega)); have S7 := Lib.hid (Nat.le_trans S6.out (Nat.le_trans (Nat.le_of_lt (by rw [World.size_alloc]; exact Nat.lt_succ_self _)) hg7.size)); have N7 := Lib.hid (own_ne N6.out.2 N6.out.1 hat7 (fun x hx => ((O6.out.alloc (.cells #[.int .u8 (z92.toNat : Int)] 5)).lt x hx).2)); clear hown7 hg7 hat7; obtain ⟨A7, c7, rfl, -, -⟩ := O7.out.shape; rw [HL10.out] at O7 N7 ⊢))
            go_roundw
            case rel => exact ⟨k + 1, A6, A7, c6, c7, rfl, rfl, by go_num, by have := HLT.out; omega, P7.out, O7.out, N7.out.2, N7.out.1, R7.out, K7.out, G7.out, S7.out⟩
            case measure => have := HLT.out; first | (simp [intOf]; done) | (simp [intOf]; omega)
          · obtain rfl : k = 64 := by omega
            have ht : (fitOf p).take 64 = fitOf p := List.take_of_length_le (by rw [HF.out]; exact Nat.le_refl _)
            rw [ht] at HO9 HO10
            have HTL := Lib.hid (show ∀ t, (turnOf (fitOf p) t).length = 64 from fun t => by rw [turnOf_length, HF.out])
            obtain ⟨I, hI⟩ : ∃ I, I = digestOf (fitOf p) 54 l2 := ⟨_, rfl⟩
            have HI := Lib.hid hI
            have HIL := Lib.hid (show I.length = 32 by rw [hI, digestOf_length])
            have HML := Lib.hid (macOf_length p l2)
            have HMM := Lib.hid (show shaOf (turnOf (fitOf p) 92 ++ I) = macOf p l2 by rw [digest_sha, macOf, hI])
            obtain ⟨m1, hm1⟩ : ∃ m, (turnOf (fitOf p) 54 ++ l2).length = m := ⟨_, rfl⟩
            obtain ⟨m2, hm2⟩ : ∃ m, (turnOf (fitOf p) 92 ++ I).length = m := ⟨_, rfl⟩
            have HMA := Lib.hid hm1
            have HMC := Lib.hid hm2
            have HMA2 := Lib.hid (show m1 < 100000 by rw [← hm1, List.length_append, HTL.out, HN2.out]; have := HC2.out; omega)
            have HMC2 := Lib.hid (show m2 < 100000 by rw [← hm2, List.length_append, HTL.out, HIL.out]; omega)
            clear hm1 hm2
            obtain ⟨wo, hwo⟩ : ∃ wo : World, wo = wr := ⟨_, rfl⟩
            rw [← hwo] at HO9 HO10 HRr HGr HSZ ⊢
            clear ho9 ho10 hne hne2 hr hkk hg hk hlt hsz hI ht hwo
            go_wp2_with (first
              | (at_builtin; refine wpList_appB byteT rfl (.tmp 64) (.tmp 65) rfl HO9.out ((H2.out.kept HGr.out (Nat.le_refl _)).more HGr.out.size) rfl (by rw [HN2.out]; rfl) (by rw [HTL.out, HN2.out]; have := HC2.out; omega) HSZ.out ?_; intro v7 w7 hown7 hg7 _ _; have O7 := Lib.hid hown7; have P7 := Lib.hid (HO10.out.row' hg7 HNE.out); have R7 := Lib.hid (HRr.out.row' hg7 (fun e => by have := (HO9.out.lt _ e).1; have := HQK.out; omega)); have G7 := Lib.hid (grown_own HGr.out hg7 (fun x hx => by have := (HO9.out.lt x hx).1; have := HQK.out; omega)); have S7 := Lib.hid (Nat.le_trans HSZ.out hg7.size); clear hown7 hg7; obtain ⟨A7, c7, rfl, hr7, -⟩ := O7.out.shape; rw [HMA.out]; have Q7 := Lib.hid hr7; clear hr7)
              | (go_at_call 48; have hx := D9; clear hx; refine (refSum_any m2 c12 A12 (turnOf (fitOf p) 92 ++ I) _ HMC.out HMC2.out Q12.out).mono ?_; rintro e w13 ⟨rfl, g13⟩; rw [HMM.out]; have R13 := Lib.hid (R12.out.kept g13); have G13 := Lib.hid (grown_trans' G12.out g13); clear g13)
              | (go_at_call 48; refine (refSum_any m1 c7 A7 (turnOf (fitOf p) 54 ++ l2) _ HMA.out HMA2.out Q7.out).mono ?_; rintro e w8 ⟨rfl, g8⟩; rw [digest_sha, ← HI.out]; have P8 := Lib.hid (P7.out.row' (row := none) g8 (by cases hv : (Value.slice A10 64 c10).ownBlock <;> simp)); have R8 := Lib.hid (R7.out.kept g8); have G8 := Lib.hid (grown_trans' G7.out g8); have S8 := Lib.hid (Nat.le_trans S7.out g8.size); clear g8)
              | refine wpList_allocC zeroB32 rfl rfl ?_
              | (refine wpList_storeC (off := 0) (p := bcells I) agg32.hi rfl (.tmp 12) (.tmp 67) rfl (.agg (bcells I).toArray) rfl (bcells_one _) (CB.new w8 61 (bcells (zeros 32))) (by rw [bcells_length, HIL.out]) (by rw [bcells_length, zeros_length]; omega) (by first | rfl | go_simp) rfl ?_; intro w9 h9 g9; rw [over_all _ _ (by rw [bcells_length, bcells_length, HIL.out, zeros_length]; exact Nat.le_refl _)] at h9; have D9 := Lib.hid h9; have P9 := Lib.hid ((P8.out.alloc _).row' g9 (by
                    rcases hv : (Value.slice A10 64 c10).ownBlock with _ | x
                    · exact .inl rfl
                    · exact .inr (fun e => by injection e with e; have := (P8.out.lt x hv).2; omega))); have R9 := Lib.hid ((R8.out.alloc _).grown g9 (by have := R8.out.lt; omega)); have G9 := Lib.hid (none_new (grown_trans' G8.out (grown_alloc _ _ none)) g9 G8.out.size); have S9 := Lib.hid (Nat.le_trans S8.out (Nat.le_trans (Nat.le_of_lt (by rw [World.size_alloc]; exact Nat.lt_succ_self _)) g9.size)); clear h9 g9)
              | (at_builtin; refine wpList_appB byteT rfl (.tmp 68) (.tmp 69) rfl P9.out (RB.of_CB D9.out (by rw [HIL.out]; unfold maxLen; omega) HIL.out) rfl (by rw [HIL.out]; rfl) (by rw [HTL.out, HIL.out]; omega) S9.out ?_; intro v12 w12 hown12 hg12 _ _; have O12 := Lib.hid hown12; have R12 := Lib.hid (R9.out.row' hg12 (fun e => by have := (P9.out.lt _ e).1; have := HQK.out; omega)); have G12 := Lib.hid (grown_own G9.out hg12 (fun x hx => by have := (P9.out.lt x hx).1; have := HQK.out; omega)); clear hown12 hg12; obtain ⟨A12, c12, rfl, hr12, -⟩ := O12.out.shape; rw [HMC.out]; have Q12 := Lib.hid hr12; clear hr12)
              | (refine wpList_storeC (off := 0) (p := bcells (macOf p l2)) agg32.hi rfl (.tmp 4) (.tmp 71) rfl (.agg (bcells (macOf p l2)).toArray) rfl (bcells_one _) R13.out (by rw [bcells_length, HML.out]) (by rw [bcells_length, zeros_length]; omega) rfl rfl ?_; intro w14 h14 g14; rw [over_all _ _ (by rw [bcells_length, bcells_length, HML.out, zeros_length]; exact Nat.le_refl _)] at h14))
            exact bodyPost_ret (results_C Tryd.underlying61 agg32.hi rfl _ h14 (by rw [bcells_length, HML.out]) rfl) rfl ⟨rfl, none_new G13.out g14 (Nat.le_refl _)⟩
end Go.Proofs.YtndnmjolcilamaaDoor
