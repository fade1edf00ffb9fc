/- The walk of mac's fit. -/
import Derived.Test.YtndnmjolcilamaaDoorMc
namespace Go.Proofs.YtndnmjolcilamaaDoor
open Go.RowKit

/-- A secret, brought to 64 bytes. -/
def fitOf (l : List UInt8) : List UInt8 := if 64 < l.length then shaOf l ++ zeros (64 - (shaOf l).length) else l ++ zeros (64 - l.length)
theorem fitOf_length (l : List UInt8) : (fitOf l).length = 64 := by
  rw [fitOf]
  split
  · rw [List.length_append, zeros_length, shaOf_length]
  · rw [List.length_append, zeros_length]; omega
theorem over_zeros (p : List UInt8) (_h : p.length ≤ 64) : over (bcells (zeros 64)) 0 (bcells p) = bcells (p ++ zeros (64 - p.length)) := by
  rw [over, List.take_zero, List.nil_append, bcells_append, bcells_length, Nat.zero_add, ← bcells_drop]
  congr 2
  rw [zeros, zeros, List.drop_replicate]

set_option maxRecDepth 10000 in
set_option maxHeartbeats 400000 in
theorem fit_any (n cap : Nat) (A : Option Addr) (l : List UInt8) (w : World) (hT : TB w) (hn : l.length = n) (hc : n < 1000000) (h : RB w w.heap.size A l cap) :
    Calls Tryd.prog 45 #[.slice A n cap] w fun e w' => e = .returned (.agg (bcells (fitOf l)).toArray) ∧ w.grownBy w' none := by
  have HT := Lib.hid hT
  have HN := Lib.hid hn
  have HC := Lib.hid hc
  have H := Lib.hid h
  clear hT hc h
  obtain ⟨F, hF⟩ : ∃ F, F = fitOf l := ⟨_, rfl⟩
  rw [← hF]
  have HFL := Lib.hid (show F.length = 64 by rw [hF, fitOf_length])
  have hR : ∀ W : World, CB ((W.alloc (.cells (bcells (zeros 64)).toArray 76)).alloc (.cells (bcells (zeros 64)).toArray 76)) W.heap.size 76 (bcells (zeros 64)) := fun W => (CB.new W _ _).alloc _
  have hK : ∀ W : World, CB ((W.alloc (.cells (bcells (zeros 64)).toArray 76)).alloc (.cells (bcells (zeros 64)).toArray 76)) (W.heap.size + 1) 76 (bcells (zeros 64)) := fun W => CB.new1 W _ _ _
  have HR := Lib.hid (hR w)
  have HK := Lib.hid (hK w)
  have HG := Lib.hid (grown_trans' (grown_alloc w (.cells (bcells (zeros 64)).toArray 76) none) (grown_alloc _ (.cells (bcells (zeros 64)).toArray 76) none))
  clear hR hK
  by_cases hb : 64 < n
  · have hbi : (64 : Int) < (n : Int) := by omega
    have HF := Lib.hid (show bcells (shaOf l ++ zeros (64 - (shaOf l).length)) = bcells F by rw [hF, fitOf, if_pos (by omega)])
    clear hF hn
    go_enter Tryd.func45, Tryd.ntmps45
    go_wp2_with (first
      | refine wpList_allocC zeroB64 rfl rfl ?_
      | (go_at_call 56; refine (shaSum_any n cap A l _ (HT.out.grown HG.out (fun e => by cases e)) HN.out HC.out ((H.out.kept HG.out (Nat.le_refl _)).more HG.out.size)).mono ?_; rintro e3 w3 ⟨rfl, g3⟩; have R3 := Lib.hid (HR.out.kept g3); have K3 := Lib.hid (HK.out.kept g3); have G3 := Lib.hid (grown_trans' HG.out g3); clear g3)
      | refine wpList_allocC zeroB32 rfl rfl ?_
      | (refine wpList_storeC (off := 0) (p := bcells (shaOf l)) agg32.hi rfl (.tmp 4) (.tmp 9) rfl (.agg (bcells (shaOf l)).toArray) rfl (bcells_one _) (CB.new w3 61 (bcells (zeros 32))) (by rw [bcells_length, shaOf_length]) (by rw [bcells_length, zeros_length]; omega) (by go_simp) rfl ?_; intro w6 h6 g6; rw [over_all _ _ (by rw [bcells_length, bcells_length, shaOf_length, zeros_length]; exact Nat.le_refl _)] at h6; have H6 := Lib.hid h6; have R6 := Lib.hid ((R3.out.alloc _).grown g6 (by have := K3.out.lt; omega)); have K6 := Lib.hid ((K3.out.alloc _).grown g6 (by have := K3.out.lt; omega)); have G6 := Lib.hid (none_new (grown_trans' G3.out (grown_alloc _ _ none)) g6 G3.out.size); clear h6 g6))
    go_still_tail 2, (by kernel_rfl)
    repeat still_step
    change wpList _ _ _ _ _ w6.drew
    refine wpList_copyC (off := 0) rfl (.tmp 10) (.tmp 11) 28 28 rfl 5 Tryd.underlying28 sz8 _ _ _ _ _ rfl rfl K6.out.drew (bcells (shaOf l)) (by rw [bcells_length, shaOf_length]; rfl) (fun j v hv => by rw [Addr.add_lit, Nat.zero_add]; exact H6.out.at_ hv) (by rw [bcells_length, bcells_length, shaOf_length, zeros_length]; omega) (bcells_one _) ?_
    intro w7 h7 g7
    rw [over_zeros _ (by rw [shaOf_length]; omega), HF.out] at h7
    have H7 := Lib.hid h7
    have R7 := Lib.hid (R6.out.drew.grown g7 (by omega))
    have G7 := Lib.hid (none_new (grown_drew G6.out) g7 (by omega))
    clear h7 g7
    go_wp2_with (first
      | refine wpList_loadC (off := 0) (p := bcells F) aggB64 rfl (.tmp 3) rfl H7.out (by rw [List.drop_zero]; exact List.take_of_length_le (by rw [bcells_length, HFL.out]; exact Nat.le_refl _)) (by rw [bcells_length, HFL.out]; omega) rfl ?_
      | (refine wpList_storeC (off := 0) (p := bcells F) aggB64.hi rfl (.tmp 2) (.tmp 16) rfl (.agg (bcells F).toArray) rfl (bcells_one _) R7.out (by rw [bcells_length, HFL.out]) (by rw [bcells_length, zeros_length]; omega) rfl rfl ?_; intro w8 h8 g8; rw [over_all _ _ (by rw [bcells_length, bcells_length, HFL.out, zeros_length]; exact Nat.le_refl _)] at h8))
    exact bodyPost_ret (results_C Tryd.underlying76 aggB64.hi rfl _ h8 (by rw [bcells_length, HFL.out]) rfl) rfl ⟨rfl, none_new G7.out g8 (Nat.le_refl _)⟩
  · have hbi : ¬ ((64 : Int) < (n : Int)) := by omega
    have HF := Lib.hid (show bcells (l ++ zeros (64 - l.length)) = bcells F by rw [hF, fitOf, if_neg (by omega)])
    have HLE := Lib.hid (show n ≤ 64 by omega)
    clear hF
    by_cases h0 : n = 0
    · subst h0
      have hl : l = [] := List.eq_nil_of_length_eq_zero hn
      subst hl
      have HZ := Lib.hid (show bcells (zeros 64) = bcells F by rw [← HF.out]; rfl)
      have HK2 := Lib.hid (show CB ((w.alloc (.cells (bcells (zeros 64)).toArray 76)).alloc (.cells (bcells (zeros 64)).toArray 76)) (w.heap.size + 1) 76 (bcells F) by rw [← HZ.out]; exact HK.out)
      clear hn
      go_enter Tryd.func45, Tryd.ntmps45
      go_wp2_with (first
        | refine wpList_allocC zeroB64 rfl rfl ?_
        | refine wpList_copy_nothing rfl (.tmp 13) (.tmp 14) 28 28 rfl 5 Tryd.underlying28 sz8 (some ⟨w.heap.size + 1, 0, none⟩) A 64 64 0 cap (by first | rfl | go_simp) (by first | rfl | go_simp) rfl ?_
        | refine wpList_loadC (off := 0) (p := bcells F) aggB64 rfl (.tmp 3) rfl HK2.out (by rw [List.drop_zero]; exact List.take_of_length_le (by rw [bcells_length, HFL.out]; exact Nat.le_refl _)) (by rw [bcells_length, HFL.out]; omega) rfl ?_
        | (refine wpList_storeC (off := 0) (p := bcells F) aggB64.hi rfl (.tmp 2) (.tmp 16) rfl (.agg (bcells F).toArray) rfl (bcells_one _) HR.out (by rw [bcells_length, HFL.out]) (by rw [bcells_length, zeros_length]; omega) rfl rfl ?_; intro w8 h8 g8; rw [over_all _ _ (by rw [bcells_length, bcells_length, HFL.out, zeros_length]; exact Nat.le_refl _)] at h8))
      exact bodyPost_ret (results_C Tryd.underlying76 aggB64.hi rfl _ h8 (by rw [bcells_length, HFL.out]) rfl) rfl ⟨rfl, none_new HG.out g8 (Nat.le_refl _)⟩
    · go_enter Tryd.func45, Tryd.ntmps45
      obtain ⟨b, off, rfl, hbb, hcell⟩ := H.out.open_ (by omega)
      have HSRC := Lib.hid (show ∀ j v, (bcells l)[j]? = some v → ((w.alloc (.cells (bcells (zeros 64)).toArray 76)).alloc (.cells (bcells (zeros 64)).toArray 76)).cell? ((⟨b, off, none⟩ : Addr).add j) = some v from fun j v hv => by
        rw [bcells_at] at hv
        obtain ⟨u, hu, rfl⟩ := Option.map_eq_some_iff.1 hv
        have hj : j < l.length := (List.getElem?_eq_some_iff.1 hu).1
        rw [List.getElem?_eq_getElem hj] at hu
        injection hu with hu
        rw [Addr.add_lit, ← hu]
        exact cell_alloc (cell_alloc (hcell j hj) _) _)
      clear hcell hn
      go_wp2_with (first
        | refine wpList_allocC zeroB64 rfl rfl ?_
        | (refine wpList_copyC (off := 0) rfl (.tmp 13) (.tmp 14) 28 28 rfl 5 Tryd.underlying28 sz8 64 64 ⟨b, off, none⟩ n cap (by first | rfl | go_simp) (by first | rfl | go_simp) HK.out (bcells l) (by rw [bcells_length, HN.out]; exact (Nat.min_eq_left HLE.out).symm) HSRC.out (by rw [bcells_length, bcells_length, HN.out, zeros_length]; have := HLE.out; omega) (bcells_one _) ?_; intro w7 h7 g7; rw [over_zeros _ (by rw [HN.out]; exact HLE.out), HF.out] at h7; have H7 := Lib.hid h7; have R7 := Lib.hid (HR.out.grown g7 (by omega)); have G7 := Lib.hid (none_new HG.out g7 (by omega)); clear h7 g7)
        | refine wpList_loadC (off := 0) (p := bcells F) aggB64 rfl (.tmp 3) rfl H7.out (by rw [List.drop_zero]; exact List.take_of_length_le (by rw [bcells_length, HFL.out]; exact Nat.le_refl _)) (by rw [bcells_length, HFL.out]; omega) rfl ?_
        | (refine wpList_storeC (off := 0) (p := bcells F) aggB64.hi rfl (.tmp 2) (.tmp 16) rfl (.agg (bcells F).toArray) rfl (bcells_one _) R7.out (by rw [bcells_length, HFL.out]) (by rw [bcells_length, zeros_length]; omega) rfl rfl ?_; intro w8 h8 g8; rw [over_all _ _ (by rw [bcells_length, bcells_length, HFL.out, zeros_length]; exact Nat.le_refl _)] at h8))
      exact bodyPost_ret (results_C Tryd.underlying76 aggB64.hi rfl _ h8 (by rw [bcells_length, HFL.out]) rfl) rfl ⟨rfl, none_new G7.out g8 (Nat.le_refl _)⟩
end Go.Proofs.YtndnmjolcilamaaDoor
