/- The walks of the document's key and Derive, and of Password, the program's and the document's. -/
import Derived.Test.YtndnmjolcilamaaDoorDer
import Derived.Test.YtndnmjolcilamaaDoorRf4
namespace Go.Proofs.YtndnmjolcilamaaDoor
open Go.RowKit

theorem bcells_setk (l : List UInt8) (k : Nat) (u : UInt8) : (bcells l).set k (.int .u8 (u.toNat : Int)) = bcells (l.set k u) := bcells_set l k u _ rfl

set_option maxRecDepth 10000 in
set_option maxHeartbeats 400000 in
theorem refKey_any (h : List UInt8) (w : World) (hl : h.length = 32) :
    Calls Tryd.prog 32 #[.agg (bcells h).toArray] w fun e w' => e = .returned (.agg (bcells (h.take 16)).toArray) ∧ w.grownBy w' none := by
  obtain ⟨k16, hk⟩ : ∃ k, k = h.take 16 := ⟨_, rfl⟩
  rw [← hk]
  have HKL := Lib.hid (show k16.length = 16 by rw [hk, List.length_take, hl]; rfl)
  have HL := Lib.hid hl
  have HAT := Lib.hid (show ∀ (k : Nat) (u : UInt8), k < 16 → h[k]? = some u → k16[k]? = some u from fun k u hk1 hu => by rw [hk, List.getElem?_take_of_lt hk1]; exact hu)
  have HSET := Lib.hid (show ∀ (k : Nat) (u : UInt8), k16[k]? = some u → (mix k16 (zeros 16) k).set k u = mix k16 (zeros 16) (k + 1) from fun k u hu => mix_set _ _ (by rw [HKL.out, zeros_length]) k u hu)
  have HMX := Lib.hid (show ∀ k, (mix k16 (zeros 16) k).length = 16 from fun k => by rw [mix_length _ _ _ (by rw [HKL.out, zeros_length]), zeros_length])
  have HEND := Lib.hid (show mix k16 (zeros 16) 16 = k16 from mix_all k16 (zeros 16) (by rw [zeros_length]; exact Nat.le_refl _) (by rw [HKL.out]; exact Nat.le_refl _))
  clear hk hl
  have hA := Lib.hid (((CB.new w 61 (bcells h)).alloc (.cells (bcells (zeros 16)).toArray 23)).alloc (.cells (bcells (zeros 16)).toArray 23))
  have hB := Lib.hid ((CB.new1 w (.cells (bcells h).toArray 61) 23 (bcells (zeros 16))).alloc (.cells (bcells (zeros 16)).toArray 23))
  have hC := Lib.hid (CB.new2 w (.cells (bcells h).toArray 61) (.cells (bcells (zeros 16)).toArray 23) 23 (bcells (zeros 16)))
  have hG := Lib.hid (grown_trans' (grown_trans' (grown_alloc w (.cells (bcells h).toArray 61) none) (grown_alloc _ (.cells (bcells (zeros 16)).toArray 23) none)) (grown_alloc _ (.cells (bcells (zeros 16)).toArray 23) none))
  go_enter Tryd.func32, Tryd.ntmps32
  go_wp2_with (first
    | refine wpList_allocC zeroB16 rfl rfl ?_
    | (refine wpList_storeC (off := 0) (p := bcells (zeros 16)) agg16.hi rfl (.tmp 3) (.tmp 5) rfl _ (by first | rfl | kernel_rfl) (bcells_one _) hC.out (by rw [bcells_length, zeros_length]) (by rw [bcells_length, zeros_length]; omega) (by first | rfl | go_simp) rfl ?_; intro w4 h4 g4; rw [over_all _ _ (Nat.le_refl _)] at h4; have C4 := Lib.hid h4; have A4 := Lib.hid (hA.out.grown g4 (by omega)); have B4 := Lib.hid (hB.out.grown g4 (by omega)); have G4 := Lib.hid (none_new hG.out g4 (by omega)); clear h4 g4))
  go_loopw [4] (fun i wr => ∃ k : Nat, i = .int .i64 k ∧ k ≤ 16 ∧ CB wr w.heap.size 61 (bcells h) ∧ CB wr (w.heap.size + 1) 23 (bcells (zeros 16)) ∧ CB wr (w.heap.size + 2) 23 (bcells (mix k16 (zeros 16) k)) ∧ w.grownBy wr none) (fun i _ => 16 - (intOf i).toNat)
  case atStart => exact ⟨0, rfl, by omega, A4.out, B4.out, by rw [mix_zero]; exact C4.out, G4.out⟩
  case round =>
    obtain ⟨k, rfl, hk, ha, hb, hc, hg⟩ := hrel
    by_cases hlt : k < 16
    · obtain ⟨u, hu⟩ : ∃ u, h[k]? = some u := ⟨_, List.getElem?_eq_getElem (by rw [HL.out]; omega)⟩
      have cu := ha.at_ (bcells_some hu)
      have HSE := Lib.hid (HSET.out k u (HAT.out k u hlt hu))
      have HXL := Lib.hid (show k < (bcells (mix k16 (zeros 16) k)).length by rw [bcells_length, HMX.out]; omega)
      have hki : (k : Int) < 16 := by omega
      have hki2 : (k : Int) < 32 := by omega
      have HAr := Lib.hid ha
      have HBr := Lib.hid hb
      have HCr := Lib.hid hc
      have HGr := Lib.hid hg
      have HLT := Lib.hid hlt
      clear ha hb hc hg hk hlt hu
      go_wp2_with (refine wpList_setC sz8 rfl (.tmp 14) (.tmp 13) rfl .u8 (u.toNat : Int) HCr.out HXL.out rfl rfl ?_; intro w6 h6 g6; rw [bcells_setk, HSE.out] at h6; have C6 := Lib.hid h6; have A6 := Lib.hid (HAr.out.grown g6 (by omega)); have B6 := Lib.hid (HBr.out.grown g6 (by omega)); have G6 := Lib.hid (none_new HGr.out g6 (by omega)); clear h6 g6)
      go_roundw
      case rel => exact ⟨k + 1, by go_num, by have := HLT.out; omega, A6.out, B6.out, C6.out, G6.out⟩
      case measure => have := HLT.out; first | (simp [intOf]; done) | (simp [intOf]; omega)
    · obtain rfl : k = 16 := by omega
      rw [HEND.out] at hc
      rw [show ((16 : Nat) : Int) = 16 from rfl]
      have HBr := Lib.hid hb
      have HCr := Lib.hid hc
      have HGr := Lib.hid hg
      clear ha hb hc hg hk hlt
      go_wp2_with (first
        | refine wpList_loadC (off := 0) (p := bcells k16) agg16 rfl (.tmp 3) rfl HCr.out (by rw [List.drop_zero]; exact List.take_of_length_le (by rw [bcells_length, HKL.out]; exact Nat.le_refl _)) (by rw [bcells_length, HKL.out]; omega) (by first | rfl | go_simp) ?_
        | (refine wpList_storeC (off := 0) (p := bcells k16) agg16.hi rfl (.tmp 2) (.tmp 15) rfl (.agg (bcells k16).toArray) rfl (bcells_one _) HBr.out (by rw [bcells_length, HKL.out]) (by rw [bcells_length, zeros_length]; omega) (by first | rfl | go_simp) rfl ?_; intro w8 h8 g8; rw [over_all _ _ (by rw [bcells_length, bcells_length, HKL.out, zeros_length]; exact Nat.le_refl _)] at h8))
      exact bodyPost_ret (results_C Tryd.underlying23 agg16.hi rfl _ h8 (by rw [bcells_length, HKL.out]) rfl) rfl ⟨rfl, none_new HGr.out g8 (by omega)⟩

/-- The key of a password, behind so many rounds. -/
def passTo (word salt : List UInt8) : Nat → List UInt8
  | 0 => (macOf word salt).take 16
  | k + 1 => (macOf word (passTo word salt k)).take 16
theorem passTo_length (word salt : List UInt8) (k : Nat) : (passTo word salt k).length = 16 := by
  cases k <;> rw [passTo, List.length_take, macOf_length] <;> rfl

set_option maxRecDepth 10000 in
set_option maxHeartbeats 1000000 in
theorem password_any (s1 s2 : ByteArray) (l1 l2 : List UInt8) (w : World) (hT : TB w) (h1 : s1.data.toList = l1) (h2 : s2.data.toList = l2) (hl1 : l1.length < 10000) (hl2 : l2.length < 10000) :
    Calls Tryd.prog 13 #[.string s1, .string s2] w fun e w' => e = .returned (.agg (bcells (passTo l1 l2 8)).toArray) ∧ w.grownBy w' none := by
  have HT := Lib.hid hT
  have HS1 := Lib.hid h1
  have HS2 := Lib.hid h2
  obtain ⟨n1, hn1⟩ : ∃ n, l1.length = n := ⟨_, rfl⟩
  obtain ⟨n2, hn2⟩ : ∃ n, l2.length = n := ⟨_, rfl⟩
  have HN1 := Lib.hid hn1
  have HN2 := Lib.hid hn2
  have HB1 := Lib.hid (show n1 < 10000 by omega)
  have HB2 := Lib.hid (show n2 < 10000 by omega)
  have HZ1 := Lib.hid (show s1.size ≤ 70368744177664 by have : s1.size = s1.data.toList.length := rfl; rw [this, h1]; omega)
  have HZ2 := Lib.hid (show s2.size ≤ 70368744177664 by have : s2.size = s2.data.toList.length := rfl; rw [this, h2]; omega)
  obtain ⟨p0, hp0⟩ : ∃ p, passTo l1 l2 0 = p := ⟨_, rfl⟩
  have HP0 := Lib.hid (show (macOf l1 l2).take 16 = p0 from hp0)
  have HP0' := Lib.hid hp0
  have HPL := Lib.hid (show p0.length = 16 by rw [← hp0, passTo_length])
  obtain ⟨p8, hp8⟩ : ∃ p, passTo l1 l2 8 = p := ⟨_, rfl⟩
  have HP8 := Lib.hid hp8
  have HPL8 := Lib.hid (show p8.length = 16 by rw [← hp8, passTo_length])
  rw [hp8]
  clear hT h1 h2 hl1 hl2 hn1 hn2 hp0 hp8
  have R0 := Lib.hid (CB.new w 23 (bcells (zeros 16)))
  have G0 := Lib.hid (grown_alloc w (.cells (bcells (zeros 16)).toArray 23) none)
  have TK0 := Lib.hid True.intro
  go_enter Tryd.func13, Tryd.ntmps13
  go_wp2_with (first
    | refine wpList_allocC zeroB16 rfl rfl ?_
    | (refine wpList_convG byteT Tryd.underlying9 rfl (.tmp 7) rfl s1 HZ1.out rfl ?_; intro v2 w2 o2 g2 _; rw [HS1.out] at o2; obtain ⟨A2, c2, rfl, r2, -⟩ := o2.shape; rw [HN1.out]; have Q2 := Lib.hid r2; have R2 := Lib.hid (R0.out.kept g2); have G2 := Lib.hid (grown_trans' G0.out g2); clear o2 g2 r2)
    | (refine wpList_convG byteT Tryd.underlying9 rfl (.tmp 10) rfl s2 HZ2.out rfl ?_; intro v3 w3 o3 g3 _; rw [HS2.out] at o3; obtain ⟨A3, c3, rfl, r3, -⟩ := o3.shape; rw [HN2.out]; have P3 := Lib.hid r3; have Q3 := Lib.hid (Q2.out.row_ g3); have R3 := Lib.hid (R2.out.kept g3); have G3 := Lib.hid (grown_trans' G2.out g3); clear o3 g3 r3)
    | (go_at_call 29; refine (macSum_any n1 c2 n2 c3 A2 A3 l1 l2 _ (HT.out.grown G3.out (fun e => by cases e)) HN1.out (by have := HB1.out; omega) Q3.out HN2.out (by have := HB2.out; omega) P3.out).mono ?_; rintro e w4 ⟨rfl, g4⟩; have Q4 := Lib.hid (Q3.out.row_ g4); have R4 := Lib.hid (R3.out.kept g4); have G4 := Lib.hid (grown_trans' G3.out g4); clear g4)
    | (go_at_call 31; refine (keyOf_any (macOf l1 l2) _ (macOf_length _ _)).mono ?_; rintro e w5 ⟨rfl, g5⟩; rw [HP0.out]; have Q5 := Lib.hid (Q4.out.row_ g5); have R5 := Lib.hid (R4.out.kept g5); have G5 := Lib.hid (grown_trans' G4.out g5); clear g5)
    | (refine wpList_storeC (off := 0) (p := bcells p0) agg16.hi rfl (.tmp 6) (.tmp 13) rfl (.agg (bcells p0).toArray) rfl (bcells_one _) (CB.new w5 23 (bcells (zeros 16))) (by rw [bcells_length, HPL.out]) (by rw [bcells_length, zeros_length]; omega) (by first | rfl | go_simp) rfl ?_; intro w6 h6 g6; rw [over_all _ _ (by rw [bcells_length, bcells_length, HPL.out, zeros_length]; exact Nat.le_refl _)] at h6; have C6 := Lib.hid h6; have gg6 := none_new (grown_alloc w5 (.cells (bcells (zeros 16)).toArray 23) none) g6 (Nat.le_refl _); have Q6 := Lib.hid (RB.row Q5.out gg6 (Nat.le_refl _) (fun _ e => by cases e)); have R6 := Lib.hid (R5.out.kept gg6); have G6 := Lib.hid (grown_trans' G5.out gg6); have S6 := Lib.hid (show w.heap.size < w5.heap.size from R5.out.lt); clear h6 g6 gg6))
  obtain ⟨g7, hg7⟩ : ∃ g, w5.heap.size = g := ⟨_, rfl⟩
  rw [hg7] at C6 S6 Q6 ⊢
  clear hg7
  go_loopw [14] (fun i wr => ∃ k : Nat, i = .int .i64 k ∧ k ≤ 8 ∧ CB wr w.heap.size 23 (bcells (zeros 16)) ∧ CB wr g7 23 (bcells (passTo l1 l2 k)) ∧ RB wr g7 A2 l1 c2 ∧ w.grownBy wr none ∧ g7 < wr.heap.size) (fun i _ => 8 - (intOf i).toNat)
  case atStart => exact ⟨0, rfl, by omega, R6.out, by rw [HP0'.out]; exact C6.out, Q6.out, G6.out, C6.out.lt⟩
  case round =>
    obtain ⟨k, rfl, hk, hr, hc, hq, hg, hgl⟩ := hrel
    have HRr := Lib.hid hr
    have HCr := Lib.hid hc
    have HQr := Lib.hid hq
    have HGr := Lib.hid hg
    by_cases hlt : k < 8
    · obtain ⟨p, hp⟩ : ∃ p, passTo l1 l2 k = p := ⟨_, rfl⟩
      have HPk := Lib.hid (show p.length = 16 by rw [← hp, passTo_length])
      obtain ⟨q, hq'⟩ : ∃ q, passTo l1 l2 (k + 1) = q := ⟨_, rfl⟩
      have HQk := Lib.hid hq'
      have HQ1 := Lib.hid (show (macOf l1 p).take 16 = q by rw [← hp, ← hq', passTo])
      have HQL := Lib.hid (show q.length = 16 by rw [← hq', passTo_length])
      rw [hp] at HCr
      have hki : (k : Int) < 8 := by omega
      have HLT := Lib.hid hlt
      have HGL := Lib.hid hgl
      clear hr hc hq hg hk hlt hp hq' hgl
      go_wp2_with (first
        | (go_at_call 29; refine (macSum_any n1 c2 16 16 A2 _ l1 p _ (HT.out.grown HGr.out (fun e => by cases e)) HN1.out (by have := HB1.out; omega) (HQr.out.more (Nat.le_of_lt HGL.out)) HPk.out (by omega) (RB.of_CB HCr.out (by rw [HPk.out]; unfold maxLen; omega) HPk.out)).mono ?_; rintro e w4 ⟨rfl, g4⟩; have Q4 := Lib.hid (RB.row HQr.out g4 (Nat.le_of_lt HGL.out) (fun _ e => by cases e)); have L4 := Lib.hid (Nat.lt_of_lt_of_le HGL.out g4.size); have R4 := Lib.hid (HRr.out.kept g4); have C4 := Lib.hid (HCr.out.kept g4); have G4 := Lib.hid (grown_trans' HGr.out g4); clear g4)
        | (go_at_call 31; refine (keyOf_any (macOf l1 p) _ (macOf_length _ _)).mono ?_; rintro e w5' ⟨rfl, g5⟩; rw [HQ1.out]; have Q5 := Lib.hid (RB.row Q4.out g5 (Nat.le_of_lt L4.out) (fun _ e => by cases e)); have L5 := Lib.hid (Nat.lt_of_lt_of_le L4.out g5.size); have R5' := Lib.hid (R4.out.kept g5); have C5 := Lib.hid (C4.out.kept g5); have G5' := Lib.hid (grown_trans' G4.out g5); clear g5)
        | (refine wpList_storeC (off := 0) (p := bcells q) agg16.hi rfl (.tmp 6) (.tmp 19) rfl (.agg (bcells q).toArray) rfl (bcells_one _) C5.out (by rw [bcells_length, HQL.out]) (by rw [bcells_length, HPk.out]; omega) rfl rfl ?_; intro w8 h8 g8; rw [over_all _ _ (by rw [bcells_length, bcells_length, HQL.out, HPk.out]; exact Nat.le_refl _)] at h8; have C8 := Lib.hid h8; have R8 := Lib.hid (R5'.out.grown g8 (by have := S6.out; omega)); have G8 := Lib.hid (none_new G5'.out g8 (by have := S6.out; omega)); have Q8 := Lib.hid (RB.row Q5.out g8 (Nat.le_of_lt L5.out) (fun g e => by injection e with e; omega)); have L8 := Lib.hid (Nat.lt_of_lt_of_le L5.out g8.size); clear h8 g8))
      go_roundw
      case rel => exact ⟨k + 1, by go_num, by have := HLT.out; omega, R8.out, by rw [HQk.out]; exact C8.out, Q8.out, G8.out, L8.out⟩
      case measure => have := HLT.out; first | (simp [intOf]; done) | (simp [intOf]; omega)
    · obtain rfl : k = 8 := by omega
      rw [show ((8 : Nat) : Int) = 8 from rfl]
      clear hr hc hq hg hk hlt
      rw [HP8.out] at HCr
      go_wp2_with (first
        | refine wpList_loadC (off := 0) (p := bcells p8) agg16 rfl (.tmp 6) rfl HCr.out (by rw [List.drop_zero]; exact List.take_of_length_le (by rw [bcells_length, HPL8.out]; exact Nat.le_refl _)) (by rw [bcells_length, HPL8.out]; omega) (by first | rfl | go_simp) ?_
        | (refine wpList_storeC (off := 0) (p := bcells p8) agg16.hi rfl (.tmp 4) (.tmp 21) rfl (.agg (bcells p8).toArray) rfl (bcells_one _) HRr.out (by rw [bcells_length, HPL8.out]) (by rw [bcells_length, zeros_length]; omega) (by first | rfl | go_simp) rfl ?_; intro w8 h8 g8; rw [over_all _ _ (by rw [bcells_length, bcells_length, HPL8.out, zeros_length]; exact Nat.le_refl _)] at h8))
      exact bodyPost_ret (results_C Tryd.underlying23 agg16.hi rfl _ h8 (by rw [bcells_length, HPL8.out]) rfl) rfl ⟨rfl, none_new HGr.out g8 (Nat.le_refl _)⟩
end Go.Proofs.YtndnmjolcilamaaDoor
