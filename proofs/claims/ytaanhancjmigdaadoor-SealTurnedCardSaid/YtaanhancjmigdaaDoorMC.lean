/- The walks of sha.Sum and of mac's fit. -/
import Derived.Test.YtaanhancjmigdaaDoorMB
namespace Go.Proofs.YtaanhancjmigdaaDoor
open Go.RowKit

theorem newH_len : newH.ws.length = 8 ∧ newH.bl.length = 64 := ⟨rfl, zeros_length 64⟩
/-- The digest of bytes. -/
def shaOf (l : List UInt8) : List UInt8 := sumOf (newH.adds l)
theorem shaOf_length (l : List UInt8) : (shaOf l).length = 32 := sumOf_length _
set_option maxRecDepth 10000 in
set_option maxHeartbeats 400000 in
theorem shaSum_any (n cap : Nat) (A : Option Addr) (l : List UInt8) (w : World) (hT : TB w) (hn : l.length = n) (hc : n < 1000000) (h : RB w w.heap.size A l cap) :
    Calls Tryd.prog 51 #[.slice A n cap] w fun e w' => e = .returned (.agg (bcells (shaOf l)).toArray) ∧ w.grownBy w' none := by
  have HT := Lib.hid hT
  have HN := Lib.hid hn
  have HC := Lib.hid hc
  have H := Lib.hid h
  have HTL := Lib.hid hT.lt
  have HL := Lib.hid (compress_len newH l newH_len.1 newH_len.2)
  have HC2 := Lib.hid (show (newH.adds l).c < 1000000000000 by have h1 := HL.out.2.2; rw [show newH.c = 0 from rfl] at h1; omega)
  clear hT hn hc h
  go_enter Tryd.func51, Tryd.ntmps51
  go_wp2_with (first
    | refine wpList_allocC zeroB32 rfl rfl ?_
    | (go_at_call 52; refine (new_anyM _).mono ?_; rintro e3 w3 ⟨g, rfl, hg, h3, g3⟩; rw [World.size_alloc] at hg; have HG := Lib.hid hg; have H3 := Lib.hid h3; have G3 := Lib.hid (grown_trans' (grown_alloc w _ none) g3); have R3 := Lib.hid ((CB.new w 59 (bcells (zeros 32))).kept g3); clear h3 g3 hg)
    | (go_at_call 53; refine (add_any g n cap newH A l _ (HT.out.grown G3.out (fun e => by cases e)) (by have := HG.out; omega) newH_len.1 newH_len.2 HN.out (by have := HC.out; show 0 + n < _; omega) H3.out ((RN.of_RB H.out (by have := HG.out; omega)).grown (grown_some G3.out g))).mono ?_; rintro e4 w4 ⟨rfl, h4, g4⟩; have H4 := Lib.hid h4; have R4 := Lib.hid (R3.out.grown g4 (by have := HG.out; omega)); have G4 := Lib.hid (none_new G3.out g4 (by have := HG.out; omega)); clear h4 g4)
    | (go_at_call 54; refine (hsum_any g (newH.adds l) _ (HT.out.grown G4.out (fun e => by cases e)) HL.out.1 HL.out.2.1 HC2.out H4.out).mono ?_; rintro e5 w5 ⟨rfl, g5⟩; have R5 := Lib.hid (R4.out.kept g5); have G5 := Lib.hid (grown_trans' G4.out g5); clear g5)
    | (refine wpList_storeC (off := 0) (p := bcells (shaOf l)) agg32.hi rfl (.tmp 2) (.tmp 9) rfl (.agg (bcells (shaOf l)).toArray) rfl (bcells_one _) R5.out (by rw [bcells_length, shaOf_length]) (by rw [bcells_length, zeros_length]; omega) rfl rfl ?_; intro w6 h6 g6; rw [over_all _ _ (by rw [bcells_length, bcells_length, shaOf_length, zeros_length]; exact Nat.le_refl _)] at h6))
  exact bodyPost_ret (results_C Tryd.underlying59 agg32.hi rfl _ h6 (by rw [bcells_length, shaOf_length]) rfl) rfl ⟨rfl, none_new G5.out g6 (Nat.le_refl _)⟩
end Go.Proofs.YtaanhancjmigdaaDoor
namespace Go.Proofs.YtaanhancjmigdaaDoor
open Go.RowKit

/-- A secret, brought to 64 bytes. -/
def fitOf (l : List UInt8) : List UInt8 := if 64 < l.length then shaOf l ++ zeros (64 - (shaOf l).length) else l ++ zeros (64 - l.length)
theorem fitOf_length (l : List UInt8) : (fitOf l).length = 64 := by
  rw [fitOf]
  split
  · rw [List.length_append, zeros_length, shaOf_length]
  · rw [List.length_append, zeros_length]; omega
theorem over_zeros (p : List UInt8) (_h : p.length ≤ 64) : over (bcells (zeros 64)) 0 (bcells p) = bcells (p ++ zeros (64 - p.length)) := by
  rw [over, List.take_zero, List.nil_append, bcells_append, bcells_length, Nat.zero_add, ← bcells_drop]
  congr 2
  rw [zeros, zeros, List.drop_replicate]

set_option maxRecDepth 10000 in
set_option maxHeartbeats 400000 in
theorem fit_any (n cap : Nat) (A : Option Addr) (l : List UInt8) (w : World) (hT : TB w) (hn : l.length = n) (hc : n < 1000000) (h : RB w w.heap.size A l cap) :
    Calls Tryd.prog 38 #[.slice A n cap] w fun e w' => e = .returned (.agg (bcells (fitOf l)).toArray) ∧ w.grownBy w' none := by
  have HT := Lib.hid hT
  have HN := Lib.hid hn
  have HC := Lib.hid hc
  have H := Lib.hid h
  clear hT hc h
  obtain ⟨F, hF⟩ : ∃ F, F = fitOf l := ⟨_, rfl⟩
  rw [← hF]
  have HFL := Lib.hid (show F.length = 64 by rw [hF, fitOf_length])
  have hR : ∀ W : World, CB ((W.alloc (.cells (bcells (zeros 64)).toArray 74)).alloc (.cells (bcells (zeros 64)).toArray 74)) W.heap.size 74 (bcells (zeros 64)) := fun W => (CB.new W _ _).alloc _
  have hK : ∀ W : World, CB ((W.alloc (.cells (bcells (zeros 64)).toArray 74)).alloc (.cells (bcells (zeros 64)).toArray 74)) (W.heap.size + 1) 74 (bcells (zeros 64)) := fun W => CB.new1 W _ _ _
  have HR := Lib.hid (hR w)
  have HK := Lib.hid (hK w)
  have HG := Lib.hid (grown_trans' (grown_alloc w (.cells (bcells (zeros 64)).toArray 74) none) (grown_alloc _ (.cells (bcells (zeros 64)).toArray 74) none))
  clear hR hK
  by_cases hb : 64 < n
  · have hbi : (64 : Int) < (n : Int) := by omega
    have HF := Lib.hid (show bcells (shaOf l ++ zeros (64 - (shaOf l).length)) = bcells F by rw [hF, fitOf, if_pos (by omega)])
    clear hF hn
    go_enter Tryd.func38, Tryd.ntmps38
    go_wp2_with (first
      | refine wpList_allocC zeroB64 rfl rfl ?_
      | (go_at_call 51; refine (shaSum_any n cap A l _ (HT.out.grown HG.out (fun e => by cases e)) HN.out HC.out ((H.out.kept HG.out (Nat.le_refl _)).more HG.out.size)).mono ?_; rintro e3 w3 ⟨rfl, g3⟩; have R3 := Lib.hid (HR.out.kept g3); have K3 := Lib.hid (HK.out.kept g3); have G3 := Lib.hid (grown_trans' HG.out g3); clear g3)
      | refine wpList_allocC zeroB32 rfl rfl ?_
      | (refine wpList_storeC (off := 0) (p := bcells (shaOf l)) agg32.hi rfl (.tmp 4) (.tmp 9) rfl (.agg (bcells (shaOf l)).toArray) rfl (bcells_one _) (CB.new w3 59 (bcells (zeros 32))) (by rw [bcells_length, shaOf_length]) (by rw [bcells_length, zeros_length]; omega) (by go_simp) rfl ?_; intro w6 h6 g6; rw [over_all _ _ (by rw [bcells_length, bcells_length, shaOf_length, zeros_length]; exact Nat.le_refl _)] at h6; have H6 := Lib.hid h6; have R6 := Lib.hid ((R3.out.alloc _).grown g6 (by have := K3.out.lt; omega)); have K6 := Lib.hid ((K3.out.alloc _).grown g6 (by have := K3.out.lt; omega)); have G6 := Lib.hid (none_new (grown_trans' G3.out (grown_alloc _ _ none)) g6 G3.out.size); clear h6 g6))
    go_still_tail 2, (by kernel_rfl)
    repeat still_step
    change wpList _ _ _ _ _ w6.drew
    refine wpList_copyC (off := 0) rfl (.tmp 10) (.tmp 11) 32 32 rfl 5 Tryd.underlying32 sz8 _ _ _ _ _ rfl rfl K6.out.drew (bcells (shaOf l)) (by rw [bcells_length, shaOf_length]; rfl) (fun j v hv => by rw [Addr.add_lit, Nat.zero_add]; exact H6.out.at_ hv) (by rw [bcells_length, bcells_length, shaOf_length, zeros_length]; omega) (bcells_one _) ?_
    intro w7 h7 g7
    rw [over_zeros _ (by rw [shaOf_length]; omega), HF.out] at h7
    have H7 := Lib.hid h7
    have R7 := Lib.hid (R6.out.drew.grown g7 (by omega))
    have G7 := Lib.hid (none_new (grown_drew G6.out) g7 (by omega))
    clear h7 g7
    go_wp2_with (first
      | refine wpList_loadC (off := 0) (p := bcells F) aggB64 rfl (.tmp 3) rfl H7.out (by rw [List.drop_zero]; exact List.take_of_length_le (by rw [bcells_length, HFL.out]; exact Nat.le_refl _)) (by rw [bcells_length, HFL.out]; omega) rfl ?_
      | (refine wpList_storeC (off := 0) (p := bcells F) aggB64.hi rfl (.tmp 2) (.tmp 16) rfl (.agg (bcells F).toArray) rfl (bcells_one _) R7.out (by rw [bcells_length, HFL.out]) (by rw [bcells_length, zeros_length]; omega) rfl rfl ?_; intro w8 h8 g8; rw [over_all _ _ (by rw [bcells_length, bcells_length, HFL.out, zeros_length]; exact Nat.le_refl _)] at h8))
    exact bodyPost_ret (results_C Tryd.underlying74 aggB64.hi rfl _ h8 (by rw [bcells_length, HFL.out]) rfl) rfl ⟨rfl, none_new G7.out g8 (Nat.le_refl _)⟩
  · have hbi : ¬ ((64 : Int) < (n : Int)) := by omega
    have HF := Lib.hid (show bcells (l ++ zeros (64 - l.length)) = bcells F by rw [hF, fitOf, if_neg (by omega)])
    have HLE := Lib.hid (show n ≤ 64 by omega)
    clear hF
    by_cases h0 : n = 0
    · subst h0
      have hl : l = [] := List.eq_nil_of_length_eq_zero hn
      subst hl
      have HZ := Lib.hid (show bcells (zeros 64) = bcells F by rw [← HF.out]; rfl)
      have HK2 := Lib.hid (show CB ((w.alloc (.cells (bcells (zeros 64)).toArray 74)).alloc (.cells (bcells (zeros 64)).toArray 74)) (w.heap.size + 1) 74 (bcells F) by rw [← HZ.out]; exact HK.out)
      clear hn
      go_enter Tryd.func38, Tryd.ntmps38
      go_wp2_with (first
        | refine wpList_allocC zeroB64 rfl rfl ?_
        | refine wpList_copy_nothing rfl (.tmp 13) (.tmp 14) 32 32 rfl 5 Tryd.underlying32 sz8 (some ⟨w.heap.size + 1, 0, none⟩) A 64 64 0 cap (by first | rfl | go_simp) (by first | rfl | go_simp) rfl ?_
        | refine wpList_loadC (off := 0) (p := bcells F) aggB64 rfl (.tmp 3) rfl HK2.out (by rw [List.drop_zero]; exact List.take_of_length_le (by rw [bcells_length, HFL.out]; exact Nat.le_refl _)) (by rw [bcells_length, HFL.out]; omega) rfl ?_
        | (refine wpList_storeC (off := 0) (p := bcells F) aggB64.hi rfl (.tmp 2) (.tmp 16) rfl (.agg (bcells F).toArray) rfl (bcells_one _) HR.out (by rw [bcells_length, HFL.out]) (by rw [bcells_length, zeros_length]; omega) rfl rfl ?_; intro w8 h8 g8; rw [over_all _ _ (by rw [bcells_length, bcells_length, HFL.out, zeros_length]; exact Nat.le_refl _)] at h8))
      exact bodyPost_ret (results_C Tryd.underlying74 aggB64.hi rfl _ h8 (by rw [bcells_length, HFL.out]) rfl) rfl ⟨rfl, none_new HG.out g8 (Nat.le_refl _)⟩
    · go_enter Tryd.func38, Tryd.ntmps38
      obtain ⟨b, off, rfl, hbb, hcell⟩ := H.out.open_ (by omega)
      have HSRC := Lib.hid (show ∀ j v, (bcells l)[j]? = some v → ((w.alloc (.cells (bcells (zeros 64)).toArray 74)).alloc (.cells (bcells (zeros 64)).toArray 74)).cell? ((⟨b, off, none⟩ : Addr).add j) = some v from fun j v hv => by
        rw [bcells_at] at hv
        obtain ⟨u, hu, rfl⟩ := Option.map_eq_some_iff.1 hv
        have hj : j < l.length := (List.getElem?_eq_some_iff.1 hu).1
        rw [List.getElem?_eq_getElem hj] at hu
        injection hu with hu
        rw [Addr.add_lit, ← hu]
        exact cell_alloc (cell_alloc (hcell j hj) _) _)
      clear hcell hn
      go_wp2_with (first
        | refine wpList_allocC zeroB64 rfl rfl ?_
        | (refine wpList_copyC (off := 0) rfl (.tmp 13) (.tmp 14) 32 32 rfl 5 Tryd.underlying32 sz8 64 64 ⟨b, off, none⟩ n cap (by first | rfl | go_simp) (by first | rfl | go_simp) HK.out (bcells l) (by rw [bcells_length, HN.out]; exact (Nat.min_eq_left HLE.out).symm) HSRC.out (by rw [bcells_length, bcells_length, HN.out, zeros_length]; have := HLE.out; omega) (bcells_one _) ?_; intro w7 h7 g7; rw [over_zeros _ (by rw [HN.out]; exact HLE.out), HF.out] at h7; have H7 := Lib.hid h7; have R7 := Lib.hid (HR.out.grown g7 (by omega)); have G7 := Lib.hid (none_new HG.out g7 (by omega)); clear h7 g7)
        | refine wpList_loadC (off := 0) (p := bcells F) aggB64 rfl (.tmp 3) rfl H7.out (by rw [List.drop_zero]; exact List.take_of_length_le (by rw [bcells_length, HFL.out]; exact Nat.le_refl _)) (by rw [bcells_length, HFL.out]; omega) rfl ?_
        | (refine wpList_storeC (off := 0) (p := bcells F) aggB64.hi rfl (.tmp 2) (.tmp 16) rfl (.agg (bcells F).toArray) rfl (bcells_one _) R7.out (by rw [bcells_length, HFL.out]) (by rw [bcells_length, zeros_length]; omega) rfl rfl ?_; intro w8 h8 g8; rw [over_all _ _ (by rw [bcells_length, bcells_length, HFL.out, zeros_length]; exact Nat.le_refl _)] at h8))
      exact bodyPost_ret (results_C Tryd.underlying74 aggB64.hi rfl _ h8 (by rw [bcells_length, HFL.out]) rfl) rfl ⟨rfl, none_new G7.out g8 (Nat.le_refl _)⟩
end Go.Proofs.YtaanhancjmigdaaDoor
namespace Go.Proofs.YtaanhancjmigdaaDoor
open Go.RowKit

/-- A digest under a block of a secret, its bits turned. -/
def turnOfM (k : List UInt8) (t : UInt8) : List UInt8 := k.map fun b => b ^^^ t
theorem turnOf_lengthM (k : List UInt8) (t : UInt8) : (turnOfM k t).length = k.length := by simp [turnOfM]
def digestOf (k : List UInt8) (t : UInt8) (l : List UInt8) : List UInt8 := sumOf ((newH.adds (turnOfM k t)).adds l)
theorem digestOf_length (k : List UInt8) (t : UInt8) (l : List UInt8) : (digestOf k t l).length = 32 := sumOf_length _
def macOf (secret data : List UInt8) : List UInt8 := digestOf (fitOf secret) 92 (digestOf (fitOf secret) 54 data)
theorem macOf_length (a b : List UInt8) : (macOf a b).length = 32 := sumOf_length _

set_option maxRecDepth 10000 in
set_option maxHeartbeats 400000 in
theorem digest_any (n cap : Nat) (k : List UInt8) (t : UInt8) (A : Option Addr) (l : List UInt8) (w : World) (hT : TB w) (hk : k.length = 64) (hn : l.length = n) (hc : n < 1000000) (h : RB w w.heap.size A l cap) :
    Calls Tryd.prog 39 #[.agg (bcells k).toArray, .int .u8 (t.toNat : Int), .slice A n cap] w fun e w' => e = .returned (.agg (bcells (digestOf k t l)).toArray) ∧ w.grownBy w' none := by
  have HT := Lib.hid hT
  have HK := Lib.hid hk
  have HN := Lib.hid hn
  have HC := Lib.hid hc
  have H := Lib.hid h
  have HLL := Lib.hid (turnOf_lengthM k t)
  obtain ⟨s1, hs1⟩ : ∃ s, s = newH.adds (turnOfM k t) := ⟨_, rfl⟩
  obtain ⟨s2, hs2⟩ : ∃ s, s = s1.adds l := ⟨_, rfl⟩
  have l1 := compress_len newH (turnOfM k t) newH_len.1 newH_len.2
  rw [← hs1, turnOf_lengthM, hk, show newH.c = 0 from rfl] at l1
  have l2 := compress_len s1 l l1.1 l1.2.1
  rw [← hs2, hn] at l2
  have hD : digestOf k t l = sumOf s2 := by rw [digestOf, ← hs1, ← hs2]
  rw [hD]
  have HDL := Lib.hid (sumOf_length s2)
  have HS1 := Lib.hid hs1
  have HS2 := Lib.hid hs2
  have L1 := Lib.hid l1
  have L2 := Lib.hid l2
  have HB1 := Lib.hid (show s1.c + n < 1152921504606846976 by have := l1.2.2; omega)
  have HB2 := Lib.hid (show s2.c < 1000000000000 by have := l1.2.2; have := l2.2.2; omega)
  clear hT hk hn hc h hs1 hs2 l1 l2 hD
  go_enter Tryd.func39, Tryd.ntmps39
  go_wp2_with (refine wpList_allocC zeroB32 rfl rfl ?_)
  go_loopw [9] (fun i wr => ∃ j : Nat, i = .int .i64 j ∧ j ≤ 64 ∧ CB wr w.heap.size 74 (bcells (mix (turnOfM k t) k j)) ∧ CB wr (w.heap.size + 1) 59 (bcells (zeros 32)) ∧ w.grownBy wr none) (fun i _ => 64 - (intOf i).toNat)
  case atStart => exact ⟨0, rfl, by omega, by rw [mix_zero]; exact (CB.new w _ _).alloc _, CB.new1 w _ _ _, grown_trans' (grown_alloc _ _ _) (grown_alloc _ _ _)⟩
  case round =>
    obtain ⟨j, rfl, hj, hB, hR, hG⟩ := hrel
    by_cases hlt : j < 64
    · obtain ⟨u, hu⟩ : ∃ u, k[j]? = some u := ⟨_, List.getElem?_eq_getElem (by rw [HK.out]; omega)⟩
      have c1 := hB.at_ (bcells_some (show (mix (turnOfM k t) k j)[j]? = some u by rw [mix_get _ _ HLL.out _ _ (Nat.le_refl _), hu]))
      have hak : (turnOfM k t)[j]? = some (u ^^^ t) := by rw [turnOfM, List.getElem?_map, hu]; rfl
      have hx := xor_u8 u t
      have hs := mix_set (turnOfM k t) k HLL.out j _ hak
      have HS := Lib.hid hs
      have hst : ∀ z : UInt8, (bcells (mix (turnOfM k t) k j)).set j (.int .u8 (z.toNat : Int)) = bcells ((mix (turnOfM k t) k j).set j z) := fun z => by simp [bcells, List.map_set]
      have HST := Lib.hid (hst (u ^^^ t))
      have HBL := Lib.hid (show j < (bcells (mix (turnOfM k t) k j)).length by rw [bcells_length, mix_length _ _ _ HLL.out, HK.out]; exact hlt)
      have HBB := Lib.hid hB
      have HRR := Lib.hid hR
      have HGG := Lib.hid hG
      have HLT := Lib.hid hlt
      have hji : (j : Int) < 64 := by omega
      have hgs := hG.size
      clear hB hR hG hak hs hst hu hlt hj
      generalize u ^^^ t = z at *
      go_wp2_with (refine wpList_setC sz8 rfl (.tmp 17) (.tmp 16) rfl .u8 _ HBB.out HBL.out rfl rfl ?_; intro w4 h4 g4; rw [HST.out, HS.out] at h4; have H4 := Lib.hid h4; have R4 := Lib.hid (HRR.out.grown g4 (by omega)); have G4 := Lib.hid (none_new HGG.out g4 (Nat.le_refl _)); clear h4 g4)
      go_roundw
      case rel => exact ⟨j + 1, by go_num, by have := HLT.out; omega, H4.out, R4.out, G4.out⟩
      case measure => have := HLT.out; simp [intOf]; omega
    · obtain rfl : j = 64 := by omega
      rw [mix_all _ _ (by rw [HK.out]; exact Nat.le_refl _) (by rw [HLL.out, HK.out]; exact Nat.le_refl _)] at hB
      have HBB := Lib.hid hB
      have HRR := Lib.hid hR
      have HGG := Lib.hid hG
      have HRL := Lib.hid hR.lt
      clear hB hR hG
      obtain ⟨wo, rfl⟩ : ∃ wo : World, wo = wr := ⟨_, rfl⟩
      go_wp2_with (first
        | (go_at_call 54; have hx := H5; clear hx; refine (hsum_any g s2 _ (HT.out.grown G5.out (fun e => by cases e)) L2.out.1 L2.out.2.1 HB2.out H5.out).mono ?_; rintro e6 w6 ⟨rfl, g6⟩; have R6 := Lib.hid (R5.out.kept g6); have G6 := Lib.hid (grown_trans' G5.out g6); clear g6)
        | (go_at_call 53; have hx := H4; clear hx; refine (add_any g n cap s1 A l _ (HT.out.grown G4.out (fun e => by cases e)) (by have := HGE.out; omega) L1.out.1 L1.out.2.1 HN.out HB1.out H4.out ((RN.of_RB H.out (by have := HGE.out; omega)).grown (grown_some G4.out g))).mono ?_; rintro e5 w5 ⟨rfl, h5, g5⟩; rw [← HS2.out] at h5; have H5 := Lib.hid h5; have R5 := Lib.hid (R4.out.grown g5 (by have := HGE.out; omega)); have G5 := Lib.hid (none_new G4.out g5 (by have := HGE.out; omega)); clear h5 g5)
        | (go_at_call 53; have hx := H3; clear hx; refine (add_any g 64 64 newH _ (turnOfM k t) _ (HT.out.grown G3.out (fun e => by cases e)) (by have := HGE.out; omega) newH_len.1 newH_len.2 (by rw [HLL.out, HK.out]) (by show 0 + 64 < _; omega) H3.out (RN.of_CB (n := 64) (off := 0) B3.out (by have := HGE.out; omega) (by rw [List.drop_zero]; exact List.take_of_length_le (by rw [HLL.out, HK.out]; exact Nat.le_refl _)) (by rw [HLL.out, HK.out]; exact Nat.le_refl _) (by unfold maxLen; omega))).mono ?_; rintro e4 w4 ⟨rfl, h4, g4⟩; rw [← HS1.out] at h4; have H4 := Lib.hid h4; have R4 := Lib.hid (R3.out.grown g4 (by have := HGE.out; omega)); have G4 := Lib.hid (none_new G3.out g4 (by have := HGE.out; omega)); clear h4 g4)
        | (go_at_call 52; refine (new_anyM _).mono ?_; rintro e3 w3 ⟨g, rfl, hg, h3, g3⟩; have HGE := Lib.hid (show w.heap.size + 1 < g by have := HRL.out; omega); have H3 := Lib.hid h3; have G3 := Lib.hid (grown_trans' HGG.out g3); have R3 := Lib.hid (HRR.out.kept g3); have B3 := Lib.hid (HBB.out.kept g3); clear h3 g3 hg)
        | (refine wpList_storeC (off := 0) (p := bcells (sumOf s2)) agg32.hi rfl (.tmp 6) (.tmp 27) rfl (.agg (bcells (sumOf s2)).toArray) rfl (bcells_one _) R6.out (by rw [bcells_length, HDL.out]) (by rw [bcells_length, zeros_length]; omega) rfl rfl ?_; intro w8 h8 g8; rw [over_all _ _ (by rw [bcells_length, bcells_length, HDL.out, zeros_length]; exact Nat.le_refl _)] at h8))
      exact bodyPost_ret (results_C Tryd.underlying59 agg32.hi rfl _ h8 (by rw [bcells_length, HDL.out]) rfl) rfl ⟨rfl, none_new G6.out g8 (Nat.le_succ _)⟩
end Go.Proofs.YtaanhancjmigdaaDoor
namespace Go.Proofs.YtaanhancjmigdaaDoor
open Go.RowKit

theorem still_loadCM {P : Program} {w : World} {o : Oper} {a : Act} {ty t : TypeId} {n g off : Nat} {cs p : List Value} {next : Act → Prop} (hT : AggT P ty n) (x : Operand) (ho : o.op = .load ty x) (h : CB w g t cs) (hp : (cs.drop off).take n = p) (hl : off + n ≤ cs.length) (hx : a.eval x = .pointer (some ⟨g, off, none⟩))
    (hk : next (a.put o.dst (.agg p.toArray))) : o.still P a w next := by
  have hr := run_loadC hT h hp hl
  unfold Oper.still execOp
  simp only [ho, hx, Instr.loadAt, Instr.sureAddr, Sem.run_bind, Sem.run_pure, Result.andThen_ok, hr]
  exact ⟨rfl, hk⟩

set_option maxRecDepth 10000 in
set_option maxHeartbeats 400000 in
theorem macSum_any (n1 cap1 n2 cap2 : Nat) (A1 A2 : Option Addr) (l1 l2 : List UInt8) (w : World) (hT : TB w) (hn1 : l1.length = n1) (hc1 : n1 < 1000000) (h1 : RB w w.heap.size A1 l1 cap1) (hn2 : l2.length = n2) (hc2 : n2 < 1000000) (h2 : RB w w.heap.size A2 l2 cap2) :
    Calls Tryd.prog 24 #[.slice A1 n1 cap1, .slice A2 n2 cap2] w fun e w' => e = .returned (.agg (bcells (macOf l1 l2)).toArray) ∧ w.grownBy w' none := by
  have HT := Lib.hid hT
  have HN1 := Lib.hid hn1
  have HN2 := Lib.hid hn2
  have HC1 := Lib.hid hc1
  have HC2 := Lib.hid hc2
  have H1 := Lib.hid h1
  have H2 := Lib.hid h2
  obtain ⟨K, hK⟩ : ∃ K, K = fitOf l1 := ⟨_, rfl⟩
  obtain ⟨I, hI⟩ : ∃ I, I = digestOf K 54 l2 := ⟨_, rfl⟩
  obtain ⟨M, hM⟩ : ∃ M, M = macOf l1 l2 := ⟨_, rfl⟩
  rw [← hM]
  have HKL := Lib.hid (show K.length = 64 by rw [hK, fitOf_length])
  have HIL := Lib.hid (show I.length = 32 by rw [hI, digestOf_length])
  have HML := Lib.hid (show M.length = 32 by rw [hM, macOf_length])
  have HMM := Lib.hid (show digestOf K 92 I = M by rw [hM, macOf, hI, hK])
  have HK := Lib.hid hK
  have HI := Lib.hid hI
  clear hT hn1 hn2 hc1 hc2 h1 h2 hK hI hM
  go_enter Tryd.func24, Tryd.ntmps24
  go_wp2_with (first
    | refine wpList_allocC zeroB32 rfl rfl ?_
    | refine wpList_allocC zeroB64 rfl rfl ?_
    | (go_at_call 38; refine (fit_any n1 cap1 A1 l1 _ (HT.out.alloc _) HN1.out HC1.out ((H1.out.kept (grown_alloc w _ none) (Nat.le_refl _)).more (by rw [World.size_alloc]; omega))).mono ?_; rintro e3 w3 ⟨rfl, g3⟩; rw [← HK.out]; have R3 := Lib.hid ((CB.new w 59 (bcells (zeros 32))).kept g3); have G3 := Lib.hid (grown_trans' (grown_alloc w (.cells (bcells (zeros 32)).toArray 59) none) g3); clear g3)
    | (have hx := D6; clear hx; refine wpList_storeC (off := 0) (p := bcells I) agg32.hi rfl (.tmp 6) (.tmp 11) rfl (.agg (bcells I).toArray) rfl (bcells_one _) (CB.new w7 59 (bcells (zeros 32))) (by rw [bcells_length, HIL.out]) (by rw [bcells_length, zeros_length]; omega) (by go_simp) rfl ?_; intro w8 h8 g8; rw [over_all _ _ (by rw [bcells_length, bcells_length, HIL.out, zeros_length]; exact Nat.le_refl _)] at h8; have D8 := Lib.hid h8; have H8 := Lib.hid ((H7.out.alloc _).grown g8 (by have := H7.out.lt; omega)); have R8 := Lib.hid ((R7.out.alloc _).grown g8 (by have := R7.out.lt; omega)); have G8 := Lib.hid (none_new (grown_trans' G7.out (grown_alloc _ _ none)) g8 G7.out.size); clear h8 g8)
    | (refine wpList_storeC (off := 0) (p := bcells K) aggB64.hi rfl (.tmp 5) (.tmp 8) rfl (.agg (bcells K).toArray) rfl (bcells_one _) (CB.new w3 74 (bcells (zeros 64))) (by rw [bcells_length, HKL.out]) (by rw [bcells_length, zeros_length]; omega) (by go_simp) rfl ?_; intro w6 h6 g6; rw [over_all _ _ (by rw [bcells_length, bcells_length, HKL.out, zeros_length]; exact Nat.le_refl _)] at h6; have H6 := Lib.hid h6; have R6 := Lib.hid ((R3.out.alloc _).grown g6 (by have := R3.out.lt; omega)); have G6 := Lib.hid (none_new (grown_trans' G3.out (grown_alloc _ _ none)) g6 G3.out.size); clear h6 g6)
    | refine wpList_loadC (off := 0) (p := bcells K) aggB64 rfl (.tmp 5) rfl H6.out (by rw [List.drop_zero]; exact List.take_of_length_le (by rw [bcells_length, HKL.out]; exact Nat.le_refl _)) (by rw [bcells_length, HKL.out]; omega) rfl ?_
    | (go_at_call 39; refine (digest_any n2 cap2 K 54 A2 l2 _ (HT.out.grown G6.out (fun e => by cases e)) HKL.out HN2.out HC2.out ((H2.out.kept G6.out (Nat.le_refl _)).more G6.out.size)).mono ?_; rintro e7 w7 ⟨rfl, g7⟩; rw [← HI.out]; have H7 := Lib.hid (H6.out.kept g7); have R7 := Lib.hid (R6.out.kept g7); have G7 := Lib.hid (grown_trans' G6.out g7); have D6 := H6; clear g7))
  go_still_tail 2, (by kernel_rfl)
  refine wpStill_step (fun KK hK => ?_)
  refine still_loadCM (off := 0) (p := bcells K) aggB64 (.tmp 5) rfl H8.out (by rw [List.drop_zero]; exact List.take_of_length_le (by rw [bcells_length, HKL.out]; exact Nat.le_refl _)) (by rw [bcells_length, HKL.out]; omega) rfl (hK _ ?_)
  clear hK KK
  repeat still_step
  refine wpStill_nil ?_
  change wpList _ _ _ _ _ w8.drew
  have G9 := Lib.hid (grown_drew G8.out)
  have D9 := Lib.hid D8.out.drew
  have R9 := Lib.hid R8.out.drew
  clear D6
  generalize w8.drew = w9 at *
  go_wp2_with (first
    | (go_at_call 39; refine (digest_any 32 32 K 92 _ I _ (HT.out.grown G9.out (fun e => by cases e)) HKL.out HIL.out (by omega) (RB.of_CB D9.out (by rw [HIL.out]; unfold maxLen; omega) HIL.out)).mono ?_; rintro e10 w10 ⟨rfl, g10⟩; rw [HMM.out]; have R10 := Lib.hid (R9.out.kept g10); have G10 := Lib.hid (grown_trans' G9.out g10); clear g10)
    | (refine wpList_storeC (off := 0) (p := bcells M) agg32.hi rfl (.tmp 4) (.tmp 14) rfl (.agg (bcells M).toArray) rfl (bcells_one _) R10.out (by rw [bcells_length, HML.out]) (by rw [bcells_length, zeros_length]; omega) rfl rfl ?_; intro w11 h11 g11; rw [over_all _ _ (by rw [bcells_length, bcells_length, HML.out, zeros_length]; exact Nat.le_refl _)] at h11))
  exact bodyPost_ret (results_C Tryd.underlying59 agg32.hi rfl _ h11 (by rw [bcells_length, HML.out]) rfl) rfl ⟨rfl, none_new G10.out g11 (Nat.le_refl _)⟩
end Go.Proofs.YtaanhancjmigdaaDoor
