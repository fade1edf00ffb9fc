/- The walk of expand: the words of a key. -/
import Derived.Test.YtaanhancjmigdaaDoorAB
import Derived.StillTailTactics
namespace Go.Proofs.YtaanhancjmigdaaDoor
open Go.RowKit

/-- Word i of the expanded key, in a cipher that holds K. -/
def wordAt (K : List UInt8) (i : Nat) : List UInt8 := piece K (256 + 4 * i) 4
def firstX (l : List UInt8) (c : UInt8) : List UInt8 := l.set 0 (l.getD 0 0 ^^^ c)
def xors (a b : List UInt8) : List UInt8 := (List.range 4).map fun j => a.getD j 0 ^^^ b.getD j 0
/-- The word that is turned, if one is. -/
def turned (K : List UInt8) (c : UInt8) (i : Nat) : List UInt8 := if i % 4 = 0 then firstX (turnOf K (wordAt K (i - 1))) c else wordAt K (i - 1)
def nextWord (K : List UInt8) (c : UInt8) (i : Nat) : List UInt8 := xors (turned K c i) (wordAt K (i - 4))
/-- The cipher, and the constant, behind n words that were made. -/
def expTo (key : List UInt8) : Nat → List UInt8 × UInt8
  | 0 => (subT ++ key ++ zeros 160, 1)
  | n + 1 => (patch (expTo key n).1 (256 + 4 * (n + 4)) (nextWord (expTo key n).1 (expTo key n).2 (n + 4)), if (n + 4) % 4 = 0 then dbl (expTo key n).2 else (expTo key n).2)
/-- What the cipher of a key holds. -/
def keyed (key : List UInt8) : List UInt8 := (expTo key 40).1

theorem xors_length (a b : List UInt8) : (xors a b).length = 4 := by simp [xors]
theorem nextWord_length (K : List UInt8) (c : UInt8) (i : Nat) : (nextWord K c i).length = 4 := xors_length _ _
theorem expTo_length (key : List UInt8) (hk : key.length = 16) : ∀ n, n ≤ 40 → (expTo key n).1.length = 432
  | 0, _ => by rw [expTo, List.length_append, List.length_append, subT_length, hk, zeros_length]
  | n + 1, h => by
    have := expTo_length key hk n (by omega)
    rw [expTo, patch_length _ _ _ (by rw [nextWord_length]; omega)]
    exact this
theorem keyed_length (key : List UInt8) (hk : key.length = 16) : (keyed key).length = 432 := expTo_length key hk 40 (Nat.le_refl _)
theorem wordAt_length (K : List UInt8) (i : Nat) (h : 256 + 4 * i + 4 ≤ K.length) : (wordAt K i).length = 4 := piece_length _ _ _ h
theorem firstX_length (l : List UInt8) (c : UInt8) : (firstX l c).length = l.length := by simp [firstX]
theorem turned_length (K : List UInt8) (c : UInt8) (i : Nat) (h : 256 + 4 * i ≤ K.length) (hi : 1 ≤ i) : (turned K c i).length = 4 := by
  rw [turned]
  split
  · rw [firstX_length, turnOf_length]
  · exact wordAt_length _ _ (by omega)
/-- The key's bytes, the first k laid. -/
def keyTo (key : List UInt8) (k : Nat) : List UInt8 := subT ++ mix key (zeros 16) k ++ zeros 160
theorem keyTo_length (key : List UInt8) (hk : key.length = 16) (k : Nat) : (keyTo key k).length = 432 := by
  rw [keyTo, List.length_append, List.length_append, subT_length, mix_length _ _ _ (by rw [hk, zeros_length]), zeros_length, zeros_length]
theorem keyTo_zero (key : List UInt8) : keyTo key 0 = subT ++ zeros 176 := by
  rw [keyTo, mix_zero, List.append_assoc]
  congr 1
theorem keyTo_all (key : List UInt8) (hk : key.length = 16) : keyTo key 16 = (expTo key 0).1 := by
  rw [keyTo, mix_all _ _ (by rw [zeros_length]; omega) (by omega), expTo]
theorem keyTo_set (key : List UInt8) (hk : key.length = 16) (k : Nat) (u : UInt8) (hu : key[k]? = some u) : (keyTo key k).set (256 + k) u = keyTo key (k + 1) := by
  have hlt : k < 16 := by rw [← hk]; exact (List.getElem?_eq_some_iff.1 hu).1
  have hl := mix_length key (zeros 16) k (by rw [hk, zeros_length])
  rw [zeros_length] at hl
  rw [keyTo, keyTo, List.set_append_left _ _ (by rw [List.length_append, subT_length, hl]; omega), List.set_append_right _ _ (by rw [subT_length]; omega), subT_length, Nat.add_sub_cancel_left,
    mix_set _ _ (by rw [hk, zeros_length]) k u hu]
theorem keyTo_at (key : List UInt8) (hk : key.length = 16) (k : Nat) (hlt : k < 432) : ∃ u, (keyTo key k)[256 + k]? = some u ∨ 176 ≤ k := by
  by_cases h : k < 176
  · exact ⟨_, .inl (List.getElem?_eq_getElem (by rw [keyTo_length key hk]; omega))⟩
  · exact ⟨0, .inr (by omega)⟩

set_option maxRecDepth 10000 in
set_option maxHeartbeats 2000000 in
theorem expand_any (gC : Nat) (key : List UInt8) (w : World) (hK : BB w gC 110 (subT ++ zeros 176)) (hk : key.length = 16) :
    Calls Tryd.prog 70 #[.pointer (some ⟨gC, 0, none⟩), .agg (bcells key).toArray] w fun e w' => e = .returned (.tuple #[]) ∧ BB w' gC 110 (keyed key) ∧ w.grownBy w' (some gC) := by
  have hgC := hK.lt
  rw [← keyTo_zero key] at hK
  have HK := Lib.hid hK
  have HKL := Lib.hid hk
  have HB0 := Lib.hid (BB.new w 23 key)
  clear hK hk
  have arrK : ArrT Tryd.prog 23 5 16 := ⟨Tryd.underlying23, by kernel_rfl⟩
  go_enter Tryd.func70, Tryd.ntmps70
  go_wp2_with (refine wpList_loadB arrK rfl (.tmp 3) rfl HB0.out HKL.out rfl ?_)
  go_loopw [12] (fun i wr => ∃ k : Nat, i = .int .i64 k ∧ k ≤ 16 ∧ BB wr gC 110 (keyTo key k) ∧ w.grownBy wr (some gC)) (fun i _ => 16 - (intOf i).toNat)
  case atStart => exact ⟨0, rfl, by omega, HK.out.alloc _, World.grownBy_alloc _ _ _⟩
  case round =>
    obtain ⟨k, rfl, hk, hC, hg⟩ := hrel
    by_cases hlt : k < 16
    · obtain ⟨a, ha⟩ : ∃ a, a = k / 4 := ⟨_, rfl⟩
      obtain ⟨m, hm⟩ : ∃ m, m = k % 4 := ⟨_, rfl⟩
      obtain ⟨u, hu⟩ : ∃ u, key[k]? = some u := ⟨_, List.getElem?_eq_getElem (by rw [HKL.out]; exact hlt)⟩
      obtain ⟨v, hv⟩ : ∃ v, (keyTo key k)[256 + a * 4 + m]? = some v := ⟨_, List.getElem?_eq_getElem (by rw [keyTo_length key HKL.out]; omega)⟩
      have hix := run_indexB arrK u8Size Tryd.underlying5 HKL.out hu
      have c1 := hC.at_ hv
      have f1 := hC.free (256 + a * 4 + m)
      have hki : (k : Int) < 16 := by omega
      have w1 : (k : Int) / 4 = (a : Int) := by omega
      have w2 : (k : Int) % 4 = (m : Int) := by omega
      have b1 : (a : Int) < 44 := by omega
      have b2 : (m : Int) < 4 := by omega
      have hs : (keyTo key k).set (256 + a * 4 + m) u = keyTo key (k + 1) := by
        rw [show 256 + a * 4 + m = 256 + k by omega]
        exact keyTo_set key HKL.out k u hu
      have HN := Lib.hid (fun x hx => hs ▸ hC.set_ (256 + a * 4 + m) u x hx)
      have HG := Lib.hid hg
      clear hs hC hg hu hv ha hm
      generalize u.toNat = n1 at *
      go_wp2
      go_roundw
      case rel => exact ⟨k + 1, by go_num, by omega, HN.out _ rfl, HG.out.trans (grown_set _ _ _ _)⟩
      case measure => simp [intOf]; omega
    · obtain rfl : k = 16 := by omega
      rw [keyTo_all key HKL.out] at hC
      have HC := Lib.hid hC
      have HG := Lib.hid hg
      clear hC hg
      go_wp2
      obtain ⟨w1, rfl⟩ : ∃ w1 : World, w1 = wr := ⟨_, rfl⟩
      rw [show ((16 : Nat) : Int) = 16 from rfl]
      go_loopw [6, 7] (fun x i wr => ∃ (n j : Nat), j = n + 4 ∧ i = .int .i64 j ∧ n ≤ 40 ∧ x = .int .u8 ((expTo key n).2.toNat : Int) ∧ BB wr gC 110 (expTo key n).1 ∧ w.grownBy wr (some gC)) (fun _ i _ => 44 - (intOf i).toNat)
      case atStart => exact ⟨0, 4, rfl, rfl, by omega, rfl, HC.out, HG.out⟩
      case round =>
        obtain ⟨n, j, hj, rfl, hn, rfl, hC, hg⟩ := hrel
        have HC := Lib.hid hC
        have HG := Lib.hid hg
        have HJ := Lib.hid hj
        clear hC hg
        by_cases hlt : n < 40
        · have hl := expTo_length key HKL.out n hn
          have HE := Lib.hid (show expTo key (n + 1) = (patch (expTo key n).1 (256 + j * 4) (nextWord (expTo key n).1 (expTo key n).2 j), if j % 4 = 0 then dbl (expTo key n).2 else (expTo key n).2) by rw [Nat.mul_comm j 4, HJ.out]; rfl)
          obtain ⟨K, hK⟩ : ∃ K, K = (expTo key n).1 := ⟨_, rfl⟩
          obtain ⟨c, hc⟩ : ∃ c, c = (expTo key n).2 := ⟨_, rfl⟩
          rw [← hK] at HE HC hl
          rw [← hc] at HE
          rw [← hc]
          clear hK hc
          obtain ⟨q1, hq1⟩ : ∃ q, q = j - 1 := ⟨_, rfl⟩
          obtain ⟨q4, hq4⟩ : ∃ q, q = j - 4 := ⟨_, rfl⟩
          have v1 : (j : Int) - 1 = (q1 : Int) := by omega
          have v4 : (j : Int) - 4 = (q4 : Int) := by omega
          have b1 : (q1 : Int) < 44 := by omega
          have b4 : (q4 : Int) < 44 := by omega
          have hj44 : (j : Int) < 44 := by omega
          have hj4 : 4 ≤ (j : Int) := by omega
          have hw1 : wordAt K (j - 1) = piece K (256 + q1 * 4) 4 := by rw [wordAt, hq1, Nat.mul_comm]
          have hw4 : wordAt K (j - 4) = piece K (256 + q4 * 4) 4 := by rw [wordAt, hq4, Nat.mul_comm]
          obtain ⟨W4, hW4⟩ : ∃ W, W = wordAt K (j - 4) := ⟨_, rfl⟩
          have HW4 : Hid (W4 = wordAt K (j - 4) ∧ W4.length = 4) := ⟨hW4, by rw [hW4]; exact wordAt_length _ _ (by omega)⟩
          have HTL := Lib.hid (turned_length K c j (by omega) (by omega))
          rw [hw4] at hW4
          have HP4 := Lib.hid hW4
          have HL := Lib.hid hl
          have HW1 := Lib.hid hw1
          have HL1 := Lib.hid (show 256 + q1 * 4 + 4 ≤ K.length by omega)
          have HL4 := Lib.hid (show 256 + q4 * 4 + 4 ≤ K.length by omega)
          have HLJ : Hid (256 + j * 4 + (nextWord K c j).length ≤ K.length) := (by unfold Hid; rw [nextWord_length]; omega)
          have HGS : Hid (w.heap.size ≤ wr.heap.size) := HG.out.size
          clear hw1 hw4 hW4 hl hq1 hq4 hj
          by_cases h4 : j % 4 = 0
          · have h4i : (j : Int) % 4 = 0 := by omega
            obtain ⟨T0, hT0⟩ : ∃ T, T = turnOf K (piece K (256 + q1 * 4) 4) := ⟨_, rfl⟩
            have hT0l : T0.length = 4 := by rw [hT0, turnOf_length]
            obtain ⟨u0, hu0⟩ : ∃ u, T0[0]? = some u := ⟨_, List.getElem?_eq_getElem (by omega)⟩
            obtain ⟨z, hz⟩ : ∃ z, z = u0 ^^^ c := ⟨_, rfl⟩
            have hT : turned K c j = T0.set 0 z := by rw [turned, if_pos h4, HW1.out, firstX, ← hT0, hz]; simp only [List.getD, hu0, Option.getD_some]
            have hx := xor_u8 u0 c
            rw [← hz] at hx
            have hx' : bits .xor .u8 (u0.toNat : Int) (c.toNat : Int) = (z.toNat : Int) := hx
            have HTE := Lib.hid hT
            have HT0 := Lib.hid hT0
            have HT0L := Lib.hid hT0l
            have HU0 := Lib.hid hu0
            have HNE := Lib.hid (show expTo key (n + 1) = (patch K (256 + j * 4) (nextWord K c j), dbl c) by rw [HE.out, if_pos h4])
            clear hT h4 hT0 hT0l hu0 hz hx
            go_wp2_with (first
              | refine wpList_loadP arr4 rfl (.tmp 36) rfl HC.out HL1.out rfl ?_
              | (refine wpList_storeB arr4 rfl (.tmp 8) (.tmp 37) rfl (BB.new wr 92 (List.replicate 4 0)) rfl (piece_length _ _ _ HL1.out) rfl rfl ?_; intro w2 h2 hg2; have HT2 := Lib.hid h2; have HC2 := Lib.hid ((HC.out.alloc _).grown hg2 (by have := HC.out.lt; omega)); have HG2 := Lib.hid (grown_new (HG.out.trans (World.grownBy_alloc _ _ _)) hg2 HGS.out); clear h2 hg2)
              | refine wpList_loadB arr4 rfl (.tmp 8) rfl HT2.out (piece_length _ _ _ HL1.out) rfl ?_
              | (go_at_call 84; refine (turn_any gC K _ _ HC2.out HL.out (piece_length _ _ _ HL1.out)).mono ?_; rw [← HT0.out]; rintro e w3 ⟨rfl, hb3⟩; have HT3 := Lib.hid (HT2.out.below hb3 HT2.out.lt); have HC3 := Lib.hid (HC2.out.below hb3 HC2.out.lt); have HG3 := Lib.hid (HG2.out.trans (grown_of_below hb3 _)); clear hb3)
              | (refine wpList_storeB arr4 rfl (.tmp 8) (.tmp 43) rfl HT3.out (piece_length _ _ _ HL1.out) HT0L.out rfl rfl ?_; intro w5 h5 hg5; have c5 := h5.at_ HU0.out; have f5 := h5.free 0; have HT5 := Lib.hid h5; have HC5 := Lib.hid (HC3.out.grown hg5 (by have := HC.out.lt; omega)); have HG5 := Lib.hid (grown_new HG3.out hg5 HGS.out); clear h5 hg5)
              | (go_at_call 82; refine (double_any c _).mono ?_; rintro e w6 ⟨rfl, rfl⟩)
              | (refine wpList_loadP arr4 rfl (.tmp 56) rfl (HC5.out.far (by have := HC.out.lt; simp; omega) _) HL4.out rfl ?_))
            have HT8 : Hid (BB (w5.setCell ⟨wr.heap.size, 0, none⟩ (.int .u8 (z.toNat : Int))) wr.heap.size 92 (turned K c j)) := (by unfold Hid; rw [HTE.out]; exact HT5.out.set_ 0 z _ rfl)
            have HC8 : Hid (BB (w5.setCell ⟨wr.heap.size, 0, none⟩ (.int .u8 (z.toNat : Int))) gC 110 K) := HC5.out.far (by have := HC.out.lt; simp; omega) _
            have HG8 : Hid (w.grownBy (w5.setCell ⟨wr.heap.size, 0, none⟩ (.int .u8 (z.toNat : Int))) (some gC)) := grown_new HG5.out (grown_set _ _ _ _) HGS.out
            clear c5 f5 hx'
            rw [← HP4.out]
            have hW4 : ∀ k, k < 4 → ∃ u, W4[k]? = some u := fun k hk => ⟨_, List.getElem?_eq_getElem (by rw [HW4.out.2]; exact hk)⟩
            have HWX := Lib.hid hW4
            clear hW4
            obtain ⟨wo, rfl⟩ : ∃ wo : World, wo = wr := ⟨_, rfl⟩
            go_loopw [58] (fun i wr => ∃ k : Nat, i = .int .i64 k ∧ k ≤ 4 ∧ BB wr wo.heap.size 92 (mix (nextWord K c j) (turned K c j) k) ∧ BB wr gC 110 K ∧ w.grownBy wr (some gC)) (fun i _ => 4 - (intOf i).toNat)
            case atStart => exact ⟨0, rfl, by omega, by rw [mix_zero]; exact HT8.out, HC8.out, HG8.out⟩
            case round =>
              obtain ⟨k, rfl, hk, hT, hC, hg⟩ := hrel
              have hll : (nextWord K c j).length = (turned K c j).length := by rw [nextWord_length, HTL.out]
              by_cases hlt : k < 4
              · obtain ⟨u1, hu1⟩ : ∃ u, (turned K c j)[k]? = some u := ⟨_, List.getElem?_eq_getElem (by rw [HTL.out]; exact hlt)⟩
                obtain ⟨u2, hu2⟩ := HWX.out k hlt
                have hix := run_indexB arr4 u8Size Tryd.underlying5 HW4.out.2 hu2
                have c1 := hT.at_ (i := k) (u := u1) (by rw [mix_get _ _ hll _ _ (Nat.le_refl _)]; exact hu1)
                have f1 := hT.free k
                have hki : (k : Int) < 4 := by omega
                have hx := xor_u8 u1 u2
                have hak : (nextWord K c j)[k]? = some (u1 ^^^ u2) := by
                  rw [nextWord, xors, List.getElem?_map, List.getElem?_range hlt, ← HW4.out.1]
                  simp only [Option.map_some, List.getD, hu1, hu2, Option.getD_some]
                have HN := Lib.hid (fun x hx => (mix_set (nextWord K c j) _ hll k _ hak) ▸ hT.set_ k (u1 ^^^ u2) x hx)
                have HC9 := Lib.hid hC
                have HG9 := Lib.hid hg
                clear hT hC hg hak hll hu1 hu2
                obtain ⟨z, hz⟩ : ∃ z, z = u1 ^^^ u2 := ⟨_, rfl⟩
                rw [← hz] at hx HN
                clear hz
                generalize u1.toNat = n1 at *
                generalize u2.toNat = n2 at *
                generalize z.toNat = n3 at *
                go_wp2
                go_roundw
                case rel => exact ⟨k + 1, by go_num, by omega, HN.out _ rfl, HC9.out.far (p := ⟨wo.heap.size, k, none⟩) (by have := HC.out.lt; simp; omega) _, grown_new HG9.out (grown_set _ _ _ _) HGS.out⟩
                case measure => simp [intOf]; omega
              · obtain rfl : k = 4 := by omega
                have hm := mix_all (nextWord K c j) (turned K c j) (k := 4) (by rw [HTL.out]; omega) (by rw [nextWord_length]; omega)
                rw [hm] at hT
                have HT9 := Lib.hid hT
                have HC9 := Lib.hid hC
                have HG9 := Lib.hid hg
                have b6 : (j : Int) < 44 := by omega
                clear hT hC hg hm hll
                go_wp2
                go_still_tail 6, (by kernel_rfl)
                refine wpStill_step (fun KK hK => ?_)
                refine still_loadB arr4 (.tmp 8) rfl HT9.out (nextWord_length K c j) rfl (hK _ ?_)
                clear hK KK
                repeat still_step
                refine wpStill_nil ?_
                change wpList _ _ _ _ _ wr.drew
                refine wpList_storeP arr4 rfl (.tmp 74) (.tmp 71) rfl HC9.out.drew (by have := HLJ.out; rw [nextWord_length] at this; exact this) (nextWord_length K c j) rfl rfl ?_
                intro w9 h9 hg9
                have HC10 := Lib.hid h9
                have HG10 := Lib.hid ((grown_drew HG9.out).trans hg9)
                clear h9 hg9
                go_wp2
                go_roundw
                case rel => exact ⟨n + 1, j + 1, by have := HJ.out; omega, by go_num, by omega, by rw [HNE.out], by rw [HNE.out]; exact HC10.out, HG10.out⟩
                case measure => simp [intOf]; omega
          · have h4i : ((j : Int) % 4 == 0) = false := by rw [beq_eq_false_iff_ne]; omega
            have hT : turned K c j = piece K (256 + q1 * 4) 4 := by rw [turned, if_neg h4, HW1.out]
            have HTE := Lib.hid hT
            have HNE := Lib.hid (show expTo key (n + 1) = (patch K (256 + j * 4) (nextWord K c j), c) by rw [HE.out, if_neg h4])
            clear hT h4
            go_wp2_with (first
              | refine wpList_loadP arr4 rfl (.tmp 36) rfl HC.out HL1.out rfl ?_
              | (refine wpList_storeB arr4 rfl (.tmp 8) (.tmp 37) rfl (BB.new wr 92 (List.replicate 4 0)) rfl (piece_length _ _ _ HL1.out) rfl rfl ?_; intro w2 h2 hg2; have HT8 : Hid (BB w2 wr.heap.size 92 (turned K c j)) := (by unfold Hid; rw [HTE.out]; exact h2); have HC8 := Lib.hid ((HC.out.alloc _).grown hg2 (by have := HC.out.lt; omega)); have HG8 := Lib.hid (grown_new (HG.out.trans (World.grownBy_alloc _ _ _)) hg2 HGS.out); clear h2 hg2)
              | refine wpList_loadP arr4 rfl (.tmp 56) rfl HC8.out HL4.out rfl ?_)
            rw [← HP4.out]
            have hW4 : ∀ k, k < 4 → ∃ u, W4[k]? = some u := fun k hk => ⟨_, List.getElem?_eq_getElem (by rw [HW4.out.2]; exact hk)⟩
            have HWX := Lib.hid hW4
            clear hW4
            obtain ⟨wo, rfl⟩ : ∃ wo : World, wo = wr := ⟨_, rfl⟩
            go_loopw [58] (fun i wr => ∃ k : Nat, i = .int .i64 k ∧ k ≤ 4 ∧ BB wr wo.heap.size 92 (mix (nextWord K c j) (turned K c j) k) ∧ BB wr gC 110 K ∧ w.grownBy wr (some gC)) (fun i _ => 4 - (intOf i).toNat)
            case atStart => exact ⟨0, rfl, by omega, by rw [mix_zero]; exact HT8.out, HC8.out, HG8.out⟩
            case round =>
              obtain ⟨k, rfl, hk, hT, hC, hg⟩ := hrel
              have hll : (nextWord K c j).length = (turned K c j).length := by rw [nextWord_length, HTL.out]
              by_cases hlt : k < 4
              · obtain ⟨u1, hu1⟩ : ∃ u, (turned K c j)[k]? = some u := ⟨_, List.getElem?_eq_getElem (by rw [HTL.out]; exact hlt)⟩
                obtain ⟨u2, hu2⟩ := HWX.out k hlt
                have hix := run_indexB arr4 u8Size Tryd.underlying5 HW4.out.2 hu2
                have c1 := hT.at_ (i := k) (u := u1) (by rw [mix_get _ _ hll _ _ (Nat.le_refl _)]; exact hu1)
                have f1 := hT.free k
                have hki : (k : Int) < 4 := by omega
                have hx := xor_u8 u1 u2
                have hak : (nextWord K c j)[k]? = some (u1 ^^^ u2) := by
                  rw [nextWord, xors, List.getElem?_map, List.getElem?_range hlt, ← HW4.out.1]
                  simp only [Option.map_some, List.getD, hu1, hu2, Option.getD_some]
                have HN := Lib.hid (fun x hx => (mix_set (nextWord K c j) _ hll k _ hak) ▸ hT.set_ k (u1 ^^^ u2) x hx)
                have HC9 := Lib.hid hC
                have HG9 := Lib.hid hg
                clear hT hC hg hak hll hu1 hu2
                obtain ⟨z, hz⟩ : ∃ z, z = u1 ^^^ u2 := ⟨_, rfl⟩
                rw [← hz] at hx HN
                clear hz
                generalize u1.toNat = n1 at *
                generalize u2.toNat = n2 at *
                generalize z.toNat = n3 at *
                go_wp2
                go_roundw
                case rel => exact ⟨k + 1, by go_num, by omega, HN.out _ rfl, HC9.out.far (p := ⟨wo.heap.size, k, none⟩) (by have := HC.out.lt; simp; omega) _, grown_new HG9.out (grown_set _ _ _ _) HGS.out⟩
                case measure => simp [intOf]; omega
              · obtain rfl : k = 4 := by omega
                have hm := mix_all (nextWord K c j) (turned K c j) (k := 4) (by rw [HTL.out]; omega) (by rw [nextWord_length]; omega)
                rw [hm] at hT
                have HT9 := Lib.hid hT
                have HC9 := Lib.hid hC
                have HG9 := Lib.hid hg
                have b6 : (j : Int) < 44 := by omega
                clear hT hC hg hm hll
                go_wp2
                go_still_tail 6, (by kernel_rfl)
                refine wpStill_step (fun KK hK => ?_)
                refine still_loadB arr4 (.tmp 8) rfl HT9.out (nextWord_length K c j) rfl (hK _ ?_)
                clear hK KK
                repeat still_step
                refine wpStill_nil ?_
                change wpList _ _ _ _ _ wr.drew
                refine wpList_storeP arr4 rfl (.tmp 74) (.tmp 71) rfl HC9.out.drew (by have := HLJ.out; rw [nextWord_length] at this; exact this) (nextWord_length K c j) rfl rfl ?_
                intro w9 h9 hg9
                have HC10 := Lib.hid h9
                have HG10 := Lib.hid ((grown_drew HG9.out).trans hg9)
                clear h9 hg9
                go_wp2
                go_roundw
                case rel => exact ⟨n + 1, j + 1, by have := HJ.out; omega, by go_num, by omega, by rw [HNE.out], by rw [HNE.out]; exact HC10.out, HG10.out⟩
                case measure => simp [intOf]; omega
        · obtain rfl : n = 40 := by omega
          obtain rfl : j = 44 := by have := HJ.out; omega
          go_wp2
          go_end0
          exact ⟨rfl, HC.out, HG.out⟩
end Go.Proofs.YtaanhancjmigdaaDoor
namespace Go.Proofs.YtaanhancjmigdaaDoor
open Go.RowKit

theorem built_any : Tryd.prog.built 110 [(0, .agg (bcells subT).toArray)] = some (bcells (subT ++ zeros 176)).toArray := by kernel_rfl
theorem wpList_buildC {ops : Array Oper} {rest : List Oper} {o : Oper} {a : Act} {w : World} {Q : Exit → Act → World → Prop} (hg : o.guard = none) (x : Operand) (ho : o.op = .build 110 #[(0, x)])
    (hx : a.eval x = .agg (bcells subT).toArray) (h : wpList Tryd.prog ops Q rest (a.put o.dst (.agg (bcells (subT ++ zeros 176)).toArray)) w) : wpList Tryd.prog ops Q (o :: rest) a w := by
  refine wpList_build hg 110 #[(0, x)] ho ?_ ?_
  · simp only [List.map_toArray, List.map_cons, List.map_nil, hx, built_any, Option.isSome_some]
  · simp only [List.map_toArray, List.map_cons, List.map_nil, hx, built_any, Option.getD_some]
    exact h

set_option maxHeartbeats 1000000 in
theorem new_any (key : List UInt8) (hk : key.length = 16) (w : World) :
    Calls Tryd.prog 56 #[.agg (bcells key).toArray] w fun e w' => ∃ g, e = .returned (.pointer (some ⟨g, 0, none⟩)) ∧ BB w' g 110 (keyed key) ∧ Below w.heap.size w w' ∧ w.heap.size ≤ g := by
  have arrK : ArrT Tryd.prog 23 5 16 := ⟨Tryd.underlying23, by kernel_rfl⟩
  have HB0 := Lib.hid (BB.new w 23 key)
  have HKL := Lib.hid hk
  clear hk
  go_enter Tryd.func56, Tryd.ntmps56
  go_wp2_with (first
    | (go_at_call 69; refine (substitutes_any _).mono ?_; rintro e w1 ⟨rfl, hb1⟩; have HB1 := Lib.hid (((Below.refl _ _).alloc (Nat.le_refl _) _).trans (hb1.mono (by simp))); have HK1 := Lib.hid (HB0.out.below hb1 (by simp)); clear hb1)
    | refine wpList_buildC rfl (.tmp 4) rfl rfl ?_
    | refine wpList_loadB arrK rfl (.tmp 1) rfl (HK1.out.alloc _) HKL.out rfl ?_
    | (go_at_call 70; refine (expand_any w1.heap.size key _ (BB.new w1 _ _) HKL.out).mono ?_; rintro e w2 ⟨rfl, hb2, hg2⟩))
  have hs1 := HB1.out.size
  go_ret
  exact ⟨_, rfl, hb2, (HB1.out.alloc hs1 _).trans (below_of_grown hg2 hs1 (by simp; omega)), hs1⟩
end Go.Proofs.YtaanhancjmigdaaDoor
namespace Go.Proofs.YtaanhancjmigdaaDoor
open Go.RowKit

/-- Stream, under a cipher that holds K. -/
def streamOf (K : List UInt8) (nonce : Nat) (l : List UInt8) : List UInt8 := (List.range l.length).map fun i => l.getD i 0 ^^^ (blockOf K (counterOf nonce (i / 16))).getD (i % 16) 0
theorem streamOf_length (K : List UInt8) (nonce : Nat) (l : List UInt8) : (streamOf K nonce l).length = l.length := by simp [streamOf]
/-- The block that lies ready ahead of byte k. -/
def turnAt (K : List UInt8) (nonce k : Nat) : List UInt8 := if k = 0 then zeros 16 else blockOf K (counterOf nonce ((k - 1) / 16))
theorem turnAt_length (K : List UInt8) (nonce k : Nat) : (turnAt K nonce k).length = 16 := by
  rw [turnAt]
  split
  · exact zeros_length 16
  · exact blockOf_length _ _
theorem turnAt_next (K : List UInt8) (nonce k : Nat) : turnAt K nonce (k + 1) = blockOf K (counterOf nonce (k / 16)) := by
  rw [turnAt, if_neg (by omega), Nat.add_sub_cancel]
theorem turnAt_same (K : List UInt8) (nonce k : Nat) (h : k % 16 ≠ 0) : turnAt K nonce k = turnAt K nonce (k + 1) := by
  rw [turnAt_next, turnAt, if_neg (by omega)]
  congr 2
  omega
theorem madeB (n : Nat) : madeCells #[.int .u8 0] n = (bcells (zeros n)).toArray := by
  apply Array.ext
  · simp [madeCells, bcells, zeros]
  · intro i h1 h2
    simp [madeCells, bcells, zeros, Nat.mod_one]
theorem run_makeB (n : Nat) (hn : n ≤ 1000000) (w : World) :
    (Instr.makeSlice 32 (.int .i64 (n : Int)) (.int .i64 (n : Int))).run Tryd.prog w = .ok (.slice (some ⟨w.heap.size, 0, none⟩) n n) (w.alloc (.cells (bcells (zeros n)).toArray 5)) := by
  obtain ⟨i0, hi, hz0, hz1, hz2⟩ := info_parts byteT.hi
  have h := run_make (P := Tryd.prog) w 32 5 i0 _ Tryd.underlying32 hi hz0 .i64 .i64 n n (by omega) (Int.le_refl _) (by rw [hz2]; omega) (by omega)
  rw [hz1, Int.toNat_natCast, Nat.mul_one] at h
  rw [← madeB]
  exact h
theorem OwnB.of_BB {w : World} {g base : Nat} {e : TypeId} {l : List UInt8} (h : BB w g e l) (hb : base ≤ g) (hm : l.length ≤ maxLen) {n : Nat} (hn : l.length = n) : OwnB w base e (.slice (some ⟨g, 0, none⟩) n n) l := by
  subst hn
  exact ⟨by simp [bcells_length], .inr ⟨g, l.length, _, rfl, hb, h, Nat.le_refl _, hm, by simp [bcells_length], by simp [← bcells_length l]⟩⟩
theorem zero16 (w : World) : (zeroValue 22).run Tryd.prog w = .ok (.agg (bcells (zeros 16)).toArray) w := by kernel_rfl

set_option maxRecDepth 10000 in
set_option maxHeartbeats 1000000 in
theorem stream_any (gC : Nat) (K : List UInt8) (nonce : Nat) (A : Option Addr) (l : List UInt8) (cap n : Nat) (w : World) (hK : BB w gC 110 K) (hKl : K.length = 432) (hn : l.length = n) (h : RB w w.heap.size A l cap) (hl : n ≤ 1000000) :
    Calls Tryd.prog 57 #[.pointer (some ⟨gC, 0, none⟩), .int .u64 (nonce : Int), .slice A n cap] w fun e w' => ∃ v, e = .returned v ∧ OwnB w' w.heap.size 5 v (streamOf K nonce l) ∧ Below w.heap.size w w' := by
  have hgC := hK.lt
  have HK := Lib.hid hK
  have HKL := Lib.hid hKl
  have HL := Lib.hid hn
  have H := Lib.hid h
  have hmk := run_makeB n hl
  clear hK hKl hn h
  go_enter Tryd.func57, Tryd.ntmps57
  go_wp2_with (refine wpList_allocB zero16 rfl rfl ?_)
  clear hmk
  go_loopw [16] (fun i wr => ∃ k : Nat, i = .int .i64 k ∧ k ≤ n ∧ BB wr w.heap.size 5 (mix (streamOf K nonce l) (zeros n) k) ∧ BB wr (w.heap.size + 1) 22 (turnAt K nonce k) ∧ Below w.heap.size w wr) (fun i _ => n - (intOf i).toNat)
  case atStart => exact ⟨0, rfl, by omega, by rw [mix_zero]; exact heap_alloc2_old _ _ _, heap_alloc2_new _ _ _, ((Below.refl _ _).alloc (Nat.le_refl _) _).alloc (by simp) _⟩
  case round =>
    obtain ⟨k, rfl, hk, hO, hT, hbel⟩ := hrel
    have hll : (streamOf K nonce l).length = (zeros n).length := by rw [streamOf_length, zeros_length, HL.out]
    by_cases hlt : k < n
    · obtain ⟨b, off, rfl, hb, hc⟩ := H.out.open_ (by rw [HL.out]; omega)
      obtain ⟨u1, hu1⟩ : ∃ u, l[k]? = some u := ⟨_, List.getElem?_eq_getElem (by rw [HL.out]; exact hlt)⟩
      have c1 := (hbel.cell (p := ⟨b, off + k, none⟩) hb).trans (hc k (by rw [HL.out]; exact hlt))
      have hu1' : l[k]'(by rw [HL.out]; exact hlt) = u1 := by rw [List.getElem?_eq_getElem (by rw [HL.out]; exact hlt)] at hu1; injection hu1
      rw [hu1'] at c1
      obtain ⟨q, hq⟩ : ∃ q, q = k / 16 := ⟨_, rfl⟩
      obtain ⟨m, hm⟩ : ∃ m, m = k % 16 := ⟨_, rfl⟩
      obtain ⟨u2, hu2⟩ : ∃ u, (blockOf K (counterOf nonce q))[m]? = some u := ⟨_, List.getElem?_eq_getElem (by rw [blockOf_length]; omega)⟩
      have c3 := hO.at_ (i := k) (u := 0) (by rw [mix_get _ _ hll _ _ (Nat.le_refl _), zeros_at n k hlt])
      have f3 := hO.free k
      have hak : (streamOf K nonce l)[k]? = some (u1 ^^^ u2) := by
        rw [streamOf, List.getElem?_map, List.getElem?_range (by rw [HL.out]; exact hlt)]
        simp only [Option.map_some, List.getD, hu1, Option.getD_some]
        rw [← hq, ← hm, hu2]
        rfl
      have hx := xor_u8 u1 u2
      have hs := mix_set (streamOf K nonce l) (zeros n) hll k _ hak
      obtain ⟨z, hz⟩ : ∃ z, z = u1 ^^^ u2 := ⟨_, rfl⟩
      rw [← hz] at hx hs
      have hki : (k : Int) < (n : Int) := by omega
      have w1 : (k : Int) / 16 = (q : Int) := by omega
      have w2 : (k : Int) % 16 = (m : Int) := by omega
      have b2 : (m : Int) < 16 := by omega
      have hqb : (q : Int) < 1000000 := by omega
      have HS := Lib.hid hs
      have HU2 := Lib.hid hu2
      have HO := Lib.hid hO
      have HT := Lib.hid hT
      have HB := Lib.hid hbel
      have hbs := hbel.size
      have hlo := hO.lt
      have hlt2 := hT.lt
      have HTN : Hid (turnAt K nonce (k + 1) = blockOf K (counterOf nonce q)) := by rw [hq]; exact turnAt_next K nonce k
      by_cases hm0 : m = 0
      · subst hm0
        clear hs hu2 hO hT hbel hak hu1 hu1' hq hm hz hll
        go_wp2_with (first
          | (go_at_call 72; refine (counter_any nonce q _).mono ?_; rintro e w3 ⟨rfl, hb3⟩; have HB3 := Lib.hid hb3; have hz3 := hb3.size; clear hb3)
          | (go_at_call 71; refine (block_any gC K _ _ (HK.out.below (HB.out.trans (HB3.out.mono hbs)) hgC) HKL.out (counterOf_length _ _)).mono ?_; rintro e w4 ⟨rfl, hb4⟩; have HB4 := Lib.hid (HB3.out.trans (hb4.mono hz3)); clear hb4)
          | (refine wpList_storeB arr16 rfl (.tmp 8) (.tmp 30) rfl (HT.out.below HB4.out hlt2) (turnAt_length _ _ _) (blockOf_length K _) rfl rfl ?_; intro w5 h5 hg5; have d5 := h5.at_ HU2.out; have h6 := (HO.out.below HB4.out hlo).grown hg5 (by omega); have c6 := h6.cell (i := k) (by rw [mix_length _ _ _ (by rw [streamOf_length, zeros_length, HL.out]), zeros_length]; exact hlt); have f6 := h6.free k; have HT5 := Lib.hid h5; have HO5 := Lib.hid h6; have HB5 := Lib.hid ((HB.out.trans (HB4.out.mono hbs)).trans (below_of_grown hg5 (by omega) (by have := HB4.out.size; omega))); clear h5 h6 hg5))
        go_roundw
        case rel => exact ⟨k + 1, by go_num, by omega, HS.out ▸ HO5.out.set_ k z _ rfl, by rw [HTN.out]; exact HT5.out.far (by simp) _, HB5.out.setCell (Nat.le_refl _) _⟩
        case measure => simp [intOf]; omega
      · have hTT : turnAt K nonce k = blockOf K (counterOf nonce q) := by rw [turnAt_same K nonce k (by omega), HTN.out]
        rw [hTT] at hT
        have c2 := hT.at_ hu2
        have HTT := Lib.hid hT
        have hmi : ((m : Int) == 0) = false := by rw [beq_eq_false_iff_ne]; omega
        clear hs hu2 hO hT hbel hak hu1 hu1' hq hm hz hll hm0 hTT
        go_wp2
        go_roundw
        case rel => exact ⟨k + 1, by go_num, by omega, HS.out ▸ HO.out.set_ k z _ rfl, by rw [HTN.out]; exact HTT.out.far (by simp) _, HB.out.setCell (Nat.le_refl _) _⟩
        case measure => simp [intOf]; omega
    · obtain rfl : k = n := by omega
      have hm := mix_all (streamOf K nonce l) (zeros k) (k := k) (by rw [zeros_length]; exact Nat.le_refl _) (by rw [streamOf_length, HL.out]; exact Nat.le_refl _)
      rw [hm] at hO
      have HO := Lib.hid (OwnB.of_BB hO (Nat.le_refl _) (by rw [streamOf_length, HL.out]; unfold maxLen; omega) (n := k) (by rw [streamOf_length, HL.out]))
      have HB := Lib.hid hbel
      clear hO hT hbel hll hm
      go_wp2
      go_ret
      exact ⟨_, rfl, HO.out, HB.out⟩
end Go.Proofs.YtaanhancjmigdaaDoor
