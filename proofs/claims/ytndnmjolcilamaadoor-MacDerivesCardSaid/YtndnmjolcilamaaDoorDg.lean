/- The walks of mac's digest and Sum. -/
import Derived.Test.YtndnmjolcilamaaDoorFt
namespace Go.Proofs.YtndnmjolcilamaaDoor
open Go.RowKit

/-- A digest under a block of a secret, its bits turned. -/
def turnOf (k : List UInt8) (t : UInt8) : List UInt8 := k.map fun b => b ^^^ t
theorem turnOf_length (k : List UInt8) (t : UInt8) : (turnOf k t).length = k.length := by simp [turnOf]
def digestOf (k : List UInt8) (t : UInt8) (l : List UInt8) : List UInt8 := sumOf ((newH.adds (turnOf k t)).adds l)
theorem digestOf_length (k : List UInt8) (t : UInt8) (l : List UInt8) : (digestOf k t l).length = 32 := sumOf_length _
def macOf (secret data : List UInt8) : List UInt8 := digestOf (fitOf secret) 92 (digestOf (fitOf secret) 54 data)
theorem macOf_length (a b : List UInt8) : (macOf a b).length = 32 := sumOf_length _

set_option maxRecDepth 10000 in
set_option maxHeartbeats 400000 in
theorem digest_any (n cap : Nat) (k : List UInt8) (t : UInt8) (A : Option Addr) (l : List UInt8) (w : World) (hT : TB w) (hk : k.length = 64) (hn : l.length = n) (hc : n < 1000000) (h : RB w w.heap.size A l cap) :
    Calls Tryd.prog 46 #[.agg (bcells k).toArray, .int .u8 (t.toNat : Int), .slice A n cap] w fun e w' => e = .returned (.agg (bcells (digestOf k t l)).toArray) ∧ w.grownBy w' none := by
  have HT := Lib.hid hT
  have HK := Lib.hid hk
  have HN := Lib.hid hn
  have HC := Lib.hid hc
  have H := Lib.hid h
  have HLL := Lib.hid (turnOf_length k t)
  obtain ⟨s1, hs1⟩ : ∃ s, s = newH.adds (turnOf k t) := ⟨_, rfl⟩
  obtain ⟨s2, hs2⟩ : ∃ s, s = s1.adds l := ⟨_, rfl⟩
  have l1 := compress_len newH (turnOf k t) newH_len.1 newH_len.2
  rw [← hs1, turnOf_length, hk, show newH.c = 0 from rfl] at l1
  have l2 := compress_len s1 l l1.1 l1.2.1
  rw [← hs2, hn] at l2
  have hD : digestOf k t l = sumOf s2 := by rw [digestOf, ← hs1, ← hs2]
  rw [hD]
  have HDL := Lib.hid (sumOf_length s2)
  have HS1 := Lib.hid hs1
  have HS2 := Lib.hid hs2
  have L1 := Lib.hid l1
  have L2 := Lib.hid l2
  have HB1 := Lib.hid (show s1.c + n < 1152921504606846976 by have := l1.2.2; omega)
  have HB2 := Lib.hid (show s2.c < 1000000000000 by have := l1.2.2; have := l2.2.2; omega)
  clear hT hk hn hc h hs1 hs2 l1 l2 hD
  go_enter Tryd.func46, Tryd.ntmps46
  go_wp2_with (refine wpList_allocC zeroB32 rfl rfl ?_)
  go_loopw [9] (fun i wr => ∃ j : Nat, i = .int .i64 j ∧ j ≤ 64 ∧ CB wr w.heap.size 76 (bcells (mix (turnOf k t) k j)) ∧ CB wr (w.heap.size + 1) 61 (bcells (zeros 32)) ∧ w.grownBy wr none) (fun i _ => 64 - (intOf i).toNat)
  case atStart => exact ⟨0, rfl, by omega, by rw [mix_zero]; exact (CB.new w _ _).alloc _, CB.new1 w _ _ _, grown_trans' (grown_alloc _ _ _) (grown_alloc _ _ _)⟩
  case round =>
    obtain ⟨j, rfl, hj, hB, hR, hG⟩ := hrel
    by_cases hlt : j < 64
    · obtain ⟨u, hu⟩ : ∃ u, k[j]? = some u := ⟨_, List.getElem?_eq_getElem (by rw [HK.out]; omega)⟩
      have c1 := hB.at_ (bcells_some (show (mix (turnOf k t) k j)[j]? = some u by rw [mix_get _ _ HLL.out _ _ (Nat.le_refl _), hu]))
      have hak : (turnOf k t)[j]? = some (u ^^^ t) := by rw [turnOf, List.getElem?_map, hu]; rfl
      have hx := xor_u8 u t
      have hs := mix_set (turnOf k t) k HLL.out j _ hak
      have HS := Lib.hid hs
      have hst : ∀ z : UInt8, (bcells (mix (turnOf k t) k j)).set j (.int .u8 (z.toNat : Int)) = bcells ((mix (turnOf k t) k j).set j z) := fun z => by simp [bcells, List.map_set]
      have HST := Lib.hid (hst (u ^^^ t))
      have HBL := Lib.hid (show j < (bcells (mix (turnOf k t) k j)).length by rw [bcells_length, mix_length _ _ _ HLL.out, HK.out]; exact hlt)
      have HBB := Lib.hid hB
      have HRR := Lib.hid hR
      have HGG := Lib.hid hG
      have HLT := Lib.hid hlt
      have hji : (j : Int) < 64 := by omega
      have hgs := hG.size
      clear hB hR hG hak hs hst hu hlt hj
      generalize u ^^^ t = z at *
      go_wp2_with (refine wpList_setC sz8 rfl (.tmp 17) (.tmp 16) rfl .u8 _ HBB.out HBL.out rfl rfl ?_; intro w4 h4 g4; rw [HST.out, HS.out] at h4; have H4 := Lib.hid h4; have R4 := Lib.hid (HRR.out.grown g4 (by omega)); have G4 := Lib.hid (none_new HGG.out g4 (Nat.le_refl _)); clear h4 g4)
      go_roundw
      case rel => exact ⟨j + 1, by go_num, by have := HLT.out; omega, H4.out, R4.out, G4.out⟩
      case measure => have := HLT.out; simp [intOf]; omega
    · obtain rfl : j = 64 := by omega
      rw [mix_all _ _ (by rw [HK.out]; exact Nat.le_refl _) (by rw [HLL.out, HK.out]; exact Nat.le_refl _)] at hB
      have HBB := Lib.hid hB
      have HRR := Lib.hid hR
      have HGG := Lib.hid hG
      have HRL := Lib.hid hR.lt
      clear hB hR hG
      obtain ⟨wo, rfl⟩ : ∃ wo : World, wo = wr := ⟨_, rfl⟩
      go_wp2_with (first
        | (go_at_call 59; have hx := H5; clear hx; refine (hsum_any g s2 _ (HT.out.grown G5.out (fun e => by cases e)) L2.out.1 L2.out.2.1 HB2.out H5.out).mono ?_; rintro e6 w6 ⟨rfl, g6⟩; have R6 := Lib.hid (R5.out.kept g6); have G6 := Lib.hid (grown_trans' G5.out g6); clear g6)
        | (go_at_call 58; have hx := H4; clear hx; refine (add_any g n cap s1 A l _ (HT.out.grown G4.out (fun e => by cases e)) (by have := HGE.out; omega) L1.out.1 L1.out.2.1 HN.out HB1.out H4.out ((RN.of_RB H.out (by have := HGE.out; omega)).grown (grown_some G4.out g))).mono ?_; rintro e5 w5 ⟨rfl, h5, g5⟩; rw [← HS2.out] at h5; have H5 := Lib.hid h5; have R5 := Lib.hid (R4.out.grown g5 (by have := HGE.out; omega)); have G5 := Lib.hid (none_new G4.out g5 (by have := HGE.out; omega)); clear h5 g5)
        | (go_at_call 58; have hx := H3; clear hx; refine (add_any g 64 64 newH _ (turnOf k t) _ (HT.out.grown G3.out (fun e => by cases e)) (by have := HGE.out; omega) newH_len.1 newH_len.2 (by rw [HLL.out, HK.out]) (by show 0 + 64 < _; omega) H3.out (RN.of_CB (n := 64) (off := 0) B3.out (by have := HGE.out; omega) (by rw [List.drop_zero]; exact List.take_of_length_le (by rw [HLL.out, HK.out]; exact Nat.le_refl _)) (by rw [HLL.out, HK.out]; exact Nat.le_refl _) (by unfold maxLen; omega))).mono ?_; rintro e4 w4 ⟨rfl, h4, g4⟩; rw [← HS1.out] at h4; have H4 := Lib.hid h4; have R4 := Lib.hid (R3.out.grown g4 (by have := HGE.out; omega)); have G4 := Lib.hid (none_new G3.out g4 (by have := HGE.out; omega)); clear h4 g4)
        | (go_at_call 57; refine (new_any _).mono ?_; rintro e3 w3 ⟨g, rfl, hg, h3, g3⟩; have HGE := Lib.hid (show w.heap.size + 1 < g by have := HRL.out; omega); have H3 := Lib.hid h3; have G3 := Lib.hid (grown_trans' HGG.out g3); have R3 := Lib.hid (HRR.out.kept g3); have B3 := Lib.hid (HBB.out.kept g3); clear h3 g3 hg)
        | (refine wpList_storeC (off := 0) (p := bcells (sumOf s2)) agg32.hi rfl (.tmp 6) (.tmp 27) rfl (.agg (bcells (sumOf s2)).toArray) rfl (bcells_one _) R6.out (by rw [bcells_length, HDL.out]) (by rw [bcells_length, zeros_length]; omega) rfl rfl ?_; intro w8 h8 g8; rw [over_all _ _ (by rw [bcells_length, bcells_length, HDL.out, zeros_length]; exact Nat.le_refl _)] at h8))
      exact bodyPost_ret (results_C Tryd.underlying61 agg32.hi rfl _ h8 (by rw [bcells_length, HDL.out]) rfl) rfl ⟨rfl, none_new G6.out g8 (Nat.le_succ _)⟩
end Go.Proofs.YtndnmjolcilamaaDoor
