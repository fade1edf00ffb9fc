/- The walk of Block. -/
import Derived.Test.YtbpkaaajcimcgabMix
namespace Go.Proofs.Ytbpkaaajcimcgab
open Go.RowKit

/-- The state behind n of the first nine rounds. -/
def roundsOf (K s : List UInt8) : Nat → List UInt8
  | 0 => s
  | n + 1 => addKeyOf K (mixOf (shiftOf (subOf K (roundsOf K s n)))) (n + 1)
/-- Block, under a cipher that holds K. -/
def blockOf (K l : List UInt8) : List UInt8 := addKeyOf K (shiftOf (subOf K (roundsOf K (addKeyOf K l 0) 9))) 10
theorem roundsOf_length (K s : List UInt8) (hs : s.length = 16) : ∀ n, (roundsOf K s n).length = 16
  | 0 => hs
  | _ + 1 => addKeyOf_length _ _ _
theorem blockOf_length (K l : List UInt8) : (blockOf K l).length = 16 := addKeyOf_length _ _ _

set_option maxRecDepth 10000 in
set_option maxHeartbeats 1000000 in
theorem block_any (gC : Nat) (K l : List UInt8) (w : World) (hK : BB w gC 43 K) (hKl : K.length = 432) (hl : l.length = 16) :
    Calls Try.prog 10 #[.pointer (some ⟨gC, 0, none⟩), .agg (bcells l).toArray] w fun e w' => e = .returned (.agg (bcells (blockOf K l)).toArray) ∧ Below w.heap.size w w' := by
  have hgC := hK.lt
  have HK := Lib.hid hK
  have HKL := Lib.hid hKl
  have HL := Lib.hid hl
  have hb0 := BB.new w 22 l
  have hb1 := hb0.alloc (.cells (bcells (List.replicate 16 0)).toArray 22)
  have hr0 : BB ((w.alloc (.cells (bcells l).toArray 22)).alloc (.cells (bcells (List.replicate 16 0)).toArray 22)) (w.heap.size + 1) 22 (List.replicate 16 0) := heap_alloc2_new _ _ _
  have hbe : Below w.heap.size w ((w.alloc (.cells (bcells l).toArray 22)).alloc (.cells (bcells (List.replicate 16 0)).toArray 22)) := ((Below.refl _ _).alloc (Nat.le_refl _) _).alloc (by simp) _
  have HB1 := Lib.hid hb1
  have HR0 := Lib.hid hr0
  have HBE := Lib.hid hbe
  have hA0 : ∀ (W : World), BB W gC 43 K → Calls Try.prog 17 #[.pointer (some ⟨gC, 0, none⟩), .agg (bcells l).toArray, .int .i64 0] W fun e w' => e = .returned (.agg (bcells (addKeyOf K l 0)).toArray) ∧ Below W.heap.size W w' :=
    fun W h => addKey_any gC K l 0 W h hKl hl (by omega)
  have HA0 := Lib.hid hA0
  have hz : (List.replicate 16 (0 : UInt8)).length = 16 := rfl
  have HZ := Lib.hid hz
  clear hK hKl hl hb0 hb1 hr0 hbe hA0 hz
  go_enter Try.func10, Try.ntmps10
  go_wp2_with (first
    | refine wpList_loadB arr16 rfl (.tmp 3) rfl HB1.out HL.out rfl ?_
    | (go_at_call 17; refine (HA0.out _ (HK.out.below HBE.out hgC)).mono ?_; rintro e w1 ⟨rfl, hb1⟩; have hs1 : w.heap.size + 2 ≤ w1.heap.size := (by have := hb1.size; simp at this; omega); have HB2 := Lib.hid (HBE.out.trans (hb1.mono (by simp; omega))); have HR1 := Lib.hid (HR0.out.below hb1 (by simp)); clear hb1)
    | (refine wpList_storeB arr16 rfl (.tmp 5) (.tmp 9) rfl (BB.new w1 22 (List.replicate 16 0)) HZ.out (addKeyOf_length K l 0) rfl rfl ?_; intro w2 h2 hg2; have HS2 := Lib.hid h2; have HB3 := Lib.hid ((HB2.out.alloc HB2.out.size _).trans (below_of_grown hg2 HB2.out.size (by simp; have := HB2.out.size; omega))); have HR2 := Lib.hid ((HR1.out.alloc _).grown hg2 (by omega)); clear h2 hg2))
  have hs0 := roundsOf_length K (addKeyOf K l 0) (addKeyOf_length _ _ _)
  have HS0 := Lib.hid hs0
  clear hs0
  go_loopw [6] (fun i wr => ∃ n : Nat, i = .int .i64 ((n : Int) + 1) ∧ n ≤ 9 ∧ BB wr w1.heap.size 22 (roundsOf K (addKeyOf K l 0) n) ∧ BB wr (w.heap.size + 1) 22 (List.replicate 16 0) ∧ Below w.heap.size w wr) (fun i _ => 11 - (intOf i).toNat)
  case atStart => exact ⟨0, rfl, by omega, HS2.out, HR2.out, HB3.out⟩
  case round =>
    obtain ⟨n, rfl, hn, hS, hR, hbel⟩ := hrel
    have HS := Lib.hid hS
    have HR := Lib.hid hR
    have HB := Lib.hid hbel
    have hgs := hS.lt
    have hbs := hbel.size
    clear hS hR hbel
    by_cases hlt : n < 9
    · have hA : ∀ (W : World), BB W gC 43 K → Calls Try.prog 17 #[.pointer (some ⟨gC, 0, none⟩), .agg (bcells (mixOf (shiftOf (subOf K (roundsOf K (addKeyOf K l 0) n))))).toArray, .int .i64 ((n : Int) + 1)] W fun e w' => e = .returned (.agg (bcells (roundsOf K (addKeyOf K l 0) (n + 1))).toArray) ∧ Below W.heap.size W w' :=
        fun W h => addKey_any gC K _ (n + 1) W h HKL.out (mixOf_length _) (by omega)
      have HA := Lib.hid hA
      clear hA
      have hki : (n : Int) < 9 := by omega
      go_wp2_with (first
        | refine wpList_loadB arr16 rfl (.tmp 5) rfl HS.out (HS0.out n) rfl ?_
        | (go_at_call 20; refine (subBytes_any gC K _ _ (HK.out.below HB.out hgC) HKL.out (HS0.out n)).mono ?_; rintro e w3 ⟨rfl, hb3⟩; have HC3 := Lib.hid hb3; have hz3 := hb3.size; clear hb3)
        | (go_at_call 19; refine (shiftRows_any _ _ (by rw [subOf_length]; exact HS0.out n)).mono ?_; rintro e w4 ⟨rfl, hb4⟩; have HC4 := Lib.hid (HC3.out.trans (hb4.mono hz3)); have hz4 := HC4.out.size; clear hb4)
        | (go_at_call 18; refine (mixColumns_any _ _ (shiftOf_length _)).mono ?_; rintro e w5 ⟨rfl, hb5⟩; have HC5 := Lib.hid (HC4.out.trans (hb5.mono hz4)); have hz5 := HC5.out.size; clear hb5)
        | (go_at_call 17; refine (HA.out _ (HK.out.below (HB.out.trans (HC5.out.mono hbs)) hgC)).mono ?_; rintro e w6 ⟨rfl, hb6⟩; have HC6 := Lib.hid (HC5.out.trans (hb6.mono hz5)); have hz6 := HC6.out.size; clear hb6)
        | (refine wpList_storeB arr16 rfl (.tmp 5) (.tmp 21) rfl (HS.out.below HC6.out hgs) (HS0.out n) (HS0.out (n + 1)) rfl rfl ?_; intro w7 h7 hg7; have HS7 := Lib.hid h7; have HB7 := Lib.hid ((HB.out.trans (HC6.out.mono hbs)).trans (below_of_grown hg7 (by omega) (by omega))); have HR7 := Lib.hid ((HR.out.below HC6.out HR.out.lt).grown hg7 (by omega)); clear h7 hg7))
      go_roundw
      case rel => exact ⟨n + 1, by go_num, by omega, HS7.out, HR7.out, HB7.out⟩
      case measure => simp [intOf]; omega
    · obtain rfl : n = 9 := by omega
      have hA : ∀ (W : World), BB W gC 43 K → Calls Try.prog 17 #[.pointer (some ⟨gC, 0, none⟩), .agg (bcells (shiftOf (subOf K (roundsOf K (addKeyOf K l 0) 9)))).toArray, .int .i64 10] W fun e w' => e = .returned (.agg (bcells (blockOf K l)).toArray) ∧ Below W.heap.size W w' :=
        fun W h => addKey_any gC K _ 10 W h HKL.out (shiftOf_length _) (by omega)
      have HA := Lib.hid hA
      clear hA
      go_wp2_with (first
        | refine wpList_loadB arr16 rfl (.tmp 5) rfl HS.out (HS0.out 9) rfl ?_
        | (go_at_call 20; refine (subBytes_any gC K _ _ (HK.out.below HB.out hgC) HKL.out (HS0.out 9)).mono ?_; rintro e w3 ⟨rfl, hb3⟩; have HC3 := Lib.hid hb3; have hz3 := hb3.size; clear hb3)
        | (go_at_call 19; refine (shiftRows_any _ _ (by rw [subOf_length]; exact HS0.out 9)).mono ?_; rintro e w4 ⟨rfl, hb4⟩; have HC4 := Lib.hid (HC3.out.trans (hb4.mono hz3)); have hz4 := HC4.out.size; clear hb4)
        | (go_at_call 17; refine (HA.out _ (HK.out.below (HB.out.trans (HC4.out.mono hbs)) hgC)).mono ?_; rintro e w6 ⟨rfl, hb6⟩; have HC6 := Lib.hid (HC4.out.trans (hb6.mono hz4)); have hz6 := HC6.out.size; clear hb6)
        | (refine wpList_storeB arr16 rfl (.tmp 4) (.tmp 27) rfl (HR.out.below HC6.out HR.out.lt) HZ.out (blockOf_length K l) rfl rfl ?_; intro w7 h7 hg7; have HB7 := Lib.hid ((HB.out.trans (HC6.out.mono hbs)).trans (below_of_grown hg7 (by omega) (by omega)))))
      exact bodyPost_ret (results_B arr16 rfl _ h7 (blockOf_length K l) rfl) rfl ⟨rfl, HB7.out⟩
end Go.Proofs.Ytbpkaaajcimcgab
