/- The walks of the document's Password and Derive. -/
import Derived.Test.YtndnmjolcilamaaDoorMda
namespace Go.Proofs.YtndnmjolcilamaaDoor
open Go.RowKit

set_option maxRecDepth 10000 in
set_option maxHeartbeats 1000000 in
theorem refPassword_any (s1 s2 : ByteArray) (l1 l2 : List UInt8) (w : World) (h1 : s1.data.toList = l1) (h2 : s2.data.toList = l2) (hl1 : l1.length < 10000) (hl2 : l2.length < 10000) :
    Calls Tryd.prog 14 #[.string s1, .string s2] w fun e w' => e = .returned (.agg (bcells (passTo l1 l2 8)).toArray) ∧ w.grownBy w' none := by
  have HS1 := Lib.hid h1
  have HS2 := Lib.hid h2
  obtain ⟨n1, hn1⟩ : ∃ n, l1.length = n := ⟨_, rfl⟩
  obtain ⟨n2, hn2⟩ : ∃ n, l2.length = n := ⟨_, rfl⟩
  have HN1 := Lib.hid hn1
  have HN2 := Lib.hid hn2
  have HB1 := Lib.hid (show n1 < 10000 by omega)
  have HB2 := Lib.hid (show n2 < 10000 by omega)
  have HZ1 := Lib.hid (show s1.size ≤ 70368744177664 by have : s1.size = s1.data.toList.length := rfl; rw [this, h1]; omega)
  have HZ2 := Lib.hid (show s2.size ≤ 70368744177664 by have : s2.size = s2.data.toList.length := rfl; rw [this, h2]; omega)
  obtain ⟨p0, hp0⟩ : ∃ p, passTo l1 l2 0 = p := ⟨_, rfl⟩
  have HP0 := Lib.hid (show (macOf l1 l2).take 16 = p0 from hp0)
  have HP0' := Lib.hid hp0
  have HPL := Lib.hid (show p0.length = 16 by rw [← hp0, passTo_length])
  obtain ⟨p8, hp8⟩ : ∃ p, passTo l1 l2 8 = p := ⟨_, rfl⟩
  have HP8 := Lib.hid hp8
  have HPL8 := Lib.hid (show p8.length = 16 by rw [← hp8, passTo_length])
  rw [hp8]
  clear h1 h2 hl1 hl2 hn1 hn2 hp0 hp8
  have R0 := Lib.hid (CB.new w 23 (bcells (zeros 16)))
  have G0 := Lib.hid (grown_alloc w (.cells (bcells (zeros 16)).toArray 23) none)
  have TK0 := Lib.hid True.intro
  go_enter Tryd.func14, Tryd.ntmps14
  go_wp2_with (first
    | refine wpList_allocC zeroB16 rfl rfl ?_
    | (refine wpList_convG byteT Tryd.underlying9 rfl (.tmp 7) rfl s1 HZ1.out rfl ?_; intro v2 w2 o2 g2 _; rw [HS1.out] at o2; obtain ⟨A2, c2, rfl, r2, -⟩ := o2.shape; rw [HN1.out]; have Q2 := Lib.hid r2; have R2 := Lib.hid (R0.out.kept g2); have G2 := Lib.hid (grown_trans' G0.out g2); clear o2 g2 r2)
    | (refine wpList_convG byteT Tryd.underlying9 rfl (.tmp 9) rfl s2 HZ2.out rfl ?_; intro v3 w3 o3 g3 _; rw [HS2.out] at o3; obtain ⟨A3, c3, rfl, r3, -⟩ := o3.shape; rw [HN2.out]; have P3 := Lib.hid r3; have Q3 := Lib.hid (Q2.out.row_ g3); have R3 := Lib.hid (R2.out.kept g3); have G3 := Lib.hid (grown_trans' G2.out g3); clear o3 g3 r3)
    | (go_at_call 33; refine (refMac_any n1 c2 n2 c3 A2 A3 l1 l2 _ HN1.out (by have := HB1.out; omega) Q3.out HN2.out (by have := HB2.out; omega) P3.out).mono ?_; rintro e w4 ⟨rfl, g4⟩; have Q4 := Lib.hid (Q3.out.row_ g4); have R4 := Lib.hid (R3.out.kept g4); have G4 := Lib.hid (grown_trans' G3.out g4); clear g4)
    | (go_at_call 32; refine (refKey_any (macOf l1 l2) _ (macOf_length _ _)).mono ?_; rintro e w5 ⟨rfl, g5⟩; rw [HP0.out]; have Q5 := Lib.hid (Q4.out.row_ g5); have R5 := Lib.hid (R4.out.kept g5); have G5 := Lib.hid (grown_trans' G4.out g5); clear g5)
    | (refine wpList_storeC (off := 0) (p := bcells p0) agg16.hi rfl (.tmp 5) (.tmp 12) rfl (.agg (bcells p0).toArray) rfl (bcells_one _) (CB.new w5 23 (bcells (zeros 16))) (by rw [bcells_length, HPL.out]) (by rw [bcells_length, zeros_length]; omega) (by first | rfl | go_simp) rfl ?_; intro w6 h6 g6; rw [over_all _ _ (by rw [bcells_length, bcells_length, HPL.out, zeros_length]; exact Nat.le_refl _)] at h6; have C6 := Lib.hid h6; have gg6 := none_new (grown_alloc w5 (.cells (bcells (zeros 16)).toArray 23) none) g6 (Nat.le_refl _); have Q6 := Lib.hid (RB.row Q5.out gg6 (Nat.le_refl _) (fun _ e => by cases e)); have R6 := Lib.hid (R5.out.kept gg6); have G6 := Lib.hid (grown_trans' G5.out gg6); have S6 := Lib.hid (show w.heap.size < w5.heap.size from R5.out.lt); clear h6 g6 gg6))
  obtain ⟨g7, hg7⟩ : ∃ g, w5.heap.size = g := ⟨_, rfl⟩
  rw [hg7] at C6 S6 Q6 ⊢
  clear hg7
  clear Q6
  go_wp2
  go_loopw [6] (fun i wr => ∃ k : Nat, i = .int .i64 k ∧ k ≤ 8 ∧ CB wr w.heap.size 23 (bcells (zeros 16)) ∧ CB wr g7 23 (bcells (passTo l1 l2 k)) ∧ w.grownBy wr none ∧ g7 < wr.heap.size) (fun i _ => 8 - (intOf i).toNat)
  case atStart => exact ⟨0, rfl, by omega, R6.out, by rw [HP0'.out]; exact C6.out, G6.out, C6.out.lt⟩
  case round =>
    obtain ⟨k, rfl, hk, hr, hc, hg, hgl⟩ := hrel
    have HRr := Lib.hid hr
    have HCr := Lib.hid hc
    have HGr := Lib.hid hg
    by_cases hlt : k < 8
    · obtain ⟨p, hp⟩ : ∃ p, passTo l1 l2 k = p := ⟨_, rfl⟩
      have HPk := Lib.hid (show p.length = 16 by rw [← hp, passTo_length])
      obtain ⟨q, hq'⟩ : ∃ q, passTo l1 l2 (k + 1) = q := ⟨_, rfl⟩
      have HQk := Lib.hid hq'
      have HQ1 := Lib.hid (show (macOf l1 p).take 16 = q by rw [← hp, ← hq', passTo])
      have HQL := Lib.hid (show q.length = 16 by rw [← hq', passTo_length])
      rw [hp] at HCr
      have hki : (k : Int) < 8 := by omega
      have HLT := Lib.hid hlt
      have HGL := Lib.hid hgl
      clear hr hc hg hk hlt hp hq' hgl
      go_wp2_with (first
        | (refine wpList_convG byteT Tryd.underlying9 rfl (.tmp 17) rfl s1 HZ1.out rfl ?_; intro v2 w3' o2 g2 _; rw [HS1.out] at o2; obtain ⟨A5, c5, rfl, r2, -⟩ := o2.shape; rw [HN1.out]; have Q3' := Lib.hid r2; have R3' := Lib.hid (HRr.out.kept g2); have C3 := Lib.hid (HCr.out.kept g2); have G3' := Lib.hid (grown_trans' HGr.out g2); have L3 := Lib.hid (Nat.lt_of_lt_of_le HGL.out g2.size); clear o2 g2 r2)
        | (go_at_call 33; refine (refMac_any n1 c5 16 16 A5 _ l1 p _ HN1.out (by have := HB1.out; omega) Q3'.out HPk.out (by omega) (RB.of_CB C3.out (by rw [HPk.out]; unfold maxLen; omega) HPk.out)).mono ?_; rintro e w4' ⟨rfl, g4⟩; have R4' := Lib.hid (R3'.out.kept g4); have C4 := Lib.hid (C3.out.kept g4); have G4' := Lib.hid (grown_trans' G3'.out g4); have L4 := Lib.hid (Nat.lt_of_lt_of_le L3.out g4.size); clear g4)
        | (go_at_call 32; refine (refKey_any (macOf l1 p) _ (macOf_length _ _)).mono ?_; rintro e w5' ⟨rfl, g5⟩; rw [HQ1.out]; have R5' := Lib.hid (R4'.out.kept g5); have C5 := Lib.hid (C4.out.kept g5); have G5' := Lib.hid (grown_trans' G4'.out g5); have L5 := Lib.hid (Nat.lt_of_lt_of_le L4.out g5.size); clear g5)
        | (refine wpList_storeC (off := 0) (p := bcells q) agg16.hi rfl (.tmp 5) (.tmp 21) rfl (.agg (bcells q).toArray) rfl (bcells_one _) C5.out (by rw [bcells_length, HQL.out]) (by rw [bcells_length, HPk.out]; omega) rfl rfl ?_; intro w8 h8 g8; rw [over_all _ _ (by rw [bcells_length, bcells_length, HQL.out, HPk.out]; exact Nat.le_refl _)] at h8; have C8 := Lib.hid h8; have R8 := Lib.hid (R5'.out.grown g8 (by have := S6.out; omega)); have G8 := Lib.hid (none_new G5'.out g8 (by have := S6.out; omega)); have L8 := Lib.hid (Nat.lt_of_lt_of_le L5.out g8.size); clear h8 g8))
      go_roundw
      case rel => exact ⟨k + 1, by go_num, by have := HLT.out; omega, R8.out, by rw [HQk.out]; exact C8.out, G8.out, L8.out⟩
      case measure => have := HLT.out; first | (simp [intOf]; done) | (simp [intOf]; omega)
    · obtain rfl : k = 8 := by omega
      rw [show ((8 : Nat) : Int) = 8 from rfl]
      clear hr hc hg hk hlt
      rw [HP8.out] at HCr
      go_wp2_with (first
        | refine wpList_loadC (off := 0) (p := bcells p8) agg16 rfl (.tmp 5) rfl HCr.out (by rw [List.drop_zero]; exact List.take_of_length_le (by rw [bcells_length, HPL8.out]; exact Nat.le_refl _)) (by rw [bcells_length, HPL8.out]; omega) (by first | rfl | go_simp) ?_
        | (refine wpList_storeC (off := 0) (p := bcells p8) agg16.hi rfl (.tmp 4) (.tmp 22) rfl (.agg (bcells p8).toArray) rfl (bcells_one _) HRr.out (by rw [bcells_length, HPL8.out]) (by rw [bcells_length, zeros_length]; omega) (by first | rfl | go_simp) rfl ?_; intro w8 h8 g8; rw [over_all _ _ (by rw [bcells_length, bcells_length, HPL8.out, zeros_length]; exact Nat.le_refl _)] at h8))
      exact bodyPost_ret (results_C Tryd.underlying23 agg16.hi rfl _ h8 (by rw [bcells_length, HPL8.out]) rfl) rfl ⟨rfl, none_new HGr.out g8 (Nat.le_refl _)⟩

theorem below_row {B : Nat} {w w' : World} {r : Option Nat} (hg : w.grownBy w' r) (hB : B ≤ w.heap.size) (hr : ∀ g, r = some g → B ≤ g) : Below B w w' :=
  ⟨hg.os, hg.tape, hg.output, hg.size, fun i hi => hg.block i (Nat.lt_of_lt_of_le hi hB) (fun e => by have := hr i e.symm; omega)⟩

set_option maxRecDepth 10000 in
set_option maxHeartbeats 1000000 in
theorem refDerive_any (key : List UInt8) (s : ByteArray) (ls : List UInt8) (n : Nat) (w : World) (hk : key.length = 16) (hs : s.data.toList = ls) (hl : ls.length < 10000) (hn : n < 18446744073709551616) :
    Calls Tryd.prog 12 #[.agg (bcells key).toArray, .string s, .int .u64 n] w fun e w' => e = .returned (.agg (bcells (deriveOf key ls n)).toArray) ∧ w.grownBy w' none := by
  have HK := Lib.hid hk
  have HS := Lib.hid hs
  have HLS := Lib.hid hl
  have HSS := Lib.hid (show s.size ≤ 70368744177664 by have : s.size = s.data.toList.length := rfl; rw [this, hs]; omega)
  have HN := Lib.hid hn
  obtain ⟨D, hD⟩ : ∃ D, D = deriveOf key ls n := ⟨_, rfl⟩
  rw [← hD]
  have HDL := Lib.hid (show D.length = 16 by rw [hD, deriveOf_length])
  obtain ⟨L, hL⟩ : ∃ L, L = ls ++ [0] ++ numB n := ⟨_, rfl⟩
  have HD := Lib.hid (show (macOf key L).take 16 = D by rw [hD, deriveOf, hL])
  have HNL := Lib.hid (numB_length n)
  have HLL := Lib.hid hL
  clear hL hk hs hl hn hD
  go_enter Tryd.func12, Tryd.ntmps12
  have B0 := Lib.hid ((CB.new w 23 (bcells key)).alloc (.cells (bcells (zeros 16)).toArray 23))
  have R0 := Lib.hid (CB.new1 w (.cells (bcells key).toArray 23) 23 (bcells (zeros 16)))
  have G0 := Lib.hid (grown_trans' (grown_alloc w (.cells (bcells key).toArray 23) none) (grown_alloc _ (.cells (bcells (zeros 16)).toArray 23) none))
  have Z0 := Lib.hid (show ((w.alloc (.cells (bcells key).toArray 23)).alloc (.cells (bcells (zeros 16)).toArray 23)).heap.size = w.heap.size + 2 by rw [World.size_alloc, World.size_alloc])
  go_wp2_with (first
    | refine wpList_allocC zeroB16 rfl rfl ?_
    | (refine wpList_convG byteT Tryd.underlying9 rfl (.tmp 8) rfl s HSS.out rfl ?_; intro v2 w2 o2 g2 _; rw [HS.out, Z0.out] at o2; have O2 := Lib.hid (o2.kept (grown_alloc w2 (.cells #[.int .u8 0] 5) none)); have gg2 := grown_trans' g2 (grown_alloc w2 (.cells #[.int .u8 0] 5) none); have B2 := Lib.hid (B0.out.kept gg2); have R2 := Lib.hid (R0.out.kept gg2); have G2 := Lib.hid (grown_trans' G0.out gg2); have S2 := Lib.hid (show w.heap.size + 2 ≤ w2.heap.size by rw [← Z0.out]; exact g2.size); clear o2 g2 gg2)
    | (at_builtin; refine wpList_appG byteT rfl (.tmp 9) (.tmp 10) rfl O2.out (RB.new1 w2 5 0 0 rfl (w2.heap.size + 1) (Nat.lt_succ_self _)) rfl rfl (by have := HLS.out; simp; omega) (by rw [World.size_alloc]; have := S2.out; omega) ?_; intro v3 w3 o3 g3 _; have hne := fun g hg => (O2.out.lt_ g hg).1; have B3 := Lib.hid (B2.out.row g3 (fun g hg => by have := hne g hg; omega)); have R3 := Lib.hid (R2.out.row g3 (fun g hg => by have := hne g hg; omega)); have G3 := Lib.hid (grownR G2.out g3 (fun g hg => by have := hne g hg; omega)); have S3 := Lib.hid (Nat.le_trans (Nat.le_trans S2.out (by rw [World.size_alloc]; omega)) g3.size); have O3 := Lib.hid o3; clear o3 g3 hne))
  refine heldb_begin (w.heap.size + 1) (by kernel_rfl) (fun hS1 => ?_)
  have B4 := Lib.hid (show CB w3.drew w.heap.size 23 (bcells key) from B3.out)
  have R4 := Lib.hid (show CB w3.drew (w.heap.size + 1) 23 (bcells (zeros 16)) from R3.out)
  have O4 := Lib.hid (show OwnG w3.drew (w.heap.size + 2) 5 v3 (ls ++ [0]) from O3.out)
  have G4 := Lib.hid (grown_drew G3.out)
  have S4 := Lib.hid (show w.heap.size + 2 ≤ w3.drew.heap.size from S3.out)
  have T4 := Lib.hid (World.grownBy.refl w3.drew none)
  generalize w3.drew = wd at *
  refine heldb_take (i := 0) (d := some 12) (v := ?v0) (by assumption) rfl rfl (by kernel_rfl) (fun _ _ _ h => h) ?y0 ?_; case y0 => (refine Or.inl ⟨rfl, fun wx hS => ?_⟩; go_simp; try with_reducible rfl)
  try simp only [Act.put, List.setIfInBounds_toArray, List.set_cons_zero, List.set_cons_succ]
  refine heldb_take (i := 1) (d := some 13) (v := ?v1) (by assumption) rfl rfl (by kernel_rfl) (fun _ _ _ h => h) ?y1 ?_; case y1 => (refine Or.inl ⟨rfl, fun wx hS => ?_⟩; go_simp; try with_reducible rfl)
  try simp only [Act.put, List.setIfInBounds_toArray, List.set_cons_zero, List.set_cons_succ]
  refine heldb_take (i := 2) (d := some 14) (v := ?v2) (by assumption) rfl rfl (by kernel_rfl) (fun _ _ _ h => h) ?y2 ?_; case y2 => (refine Or.inl ⟨rfl, fun wx hS => ?_⟩; go_simp; try with_reducible rfl)
  try simp only [Act.put, List.setIfInBounds_toArray, List.set_cons_zero, List.set_cons_succ]
  refine heldb_one (i := 3) rfl (by kernel_rfl) rfl (fun K hK => ?_)
  go_simp
  refine (refNum_any n _ HN.out).mono ?_
  rintro e w5 ⟨v5, rfl, o5, b5⟩
  have g5 := none_of_below b5 (Nat.le_refl _)
  obtain ⟨A5, c5, rfl, r5, -⟩ := o5.shape
  have H5 := Lib.hid r5
  have O5 := Lib.hid (O4.out.kept g5)
  have B5 := Lib.hid (B4.out.kept g5)
  have R5 := Lib.hid (R4.out.kept g5)
  have G5 := Lib.hid (grown_trans' G4.out g5)
  have T5 := Lib.hid (grown_trans' T4.out g5)
  have S5 := Lib.hid (Nat.le_trans S4.out g5.size)
  have hb := below_row (B := w.heap.size + 1) T5.out (by have := S4.out; omega) (fun _ e => by cases e)
  refine hK.out _ _ hb (fun hS => ?_)
  clear hb hK K o5 b5 g5 r5
  try simp only [Act.put, List.setIfInBounds_toArray, List.set_cons_zero, List.set_cons_succ]
  refine heldb_one (i := 4) rfl (by kernel_rfl) rfl (fun K hK => ?_)
  refine wp_appG (d := some 16) byteT rfl (.tmp 13) (.tmp 15) rfl O5.out H5.out rfl rfl (by rw [List.length_append]; have := HLS.out; have := HNL.out; simp; omega) S5.out ?_
  intro v6 w6 o6 g6 _
  rw [← HLL.out] at o6
  have hne := fun g hg => (O5.out.lt_ g hg).1
  have B6 := Lib.hid (B5.out.row g6 (fun g hg => by have := hne g hg; omega))
  have R6 := Lib.hid (R5.out.row g6 (fun g hg => by have := hne g hg; omega))
  have G6 := Lib.hid (grownR G5.out g6 (fun g hg => by have := hne g hg; omega))
  have hb6 := Below.trans (below_row T5.out (B := w.heap.size + 1) (by have := S4.out; omega) (fun _ e => by cases e)) (below_row g6 (by have := S5.out; omega) (fun g hg => by have := hne g hg; omega))
  have BB6 := Lib.hid hb6
  have SS6 := Lib.hid (Nat.le_trans S5.out g6.size)
  obtain ⟨A6, c6, rfl, r6, -⟩ := o6.shape
  obtain ⟨m, hm⟩ : ∃ m, L.length = m := ⟨_, rfl⟩
  rw [hm]
  have HM := Lib.hid hm
  have HMB := Lib.hid (show m < 50000 by rw [← hm, HLL.out, List.length_append, List.length_append]; have := HLS.out; have := HNL.out; simp; omega)
  have H6 := Lib.hid r6
  have hb := hb6
  refine hK.out _ _ hb (fun hS => ?_)
  clear hb hK K o6 g6 hne r6 hm hb6
  try simp only [Act.put, List.setIfInBounds_toArray, List.set_cons_zero, List.set_cons_succ]
  refine heldb_one (i := 5) rfl (by kernel_rfl) rfl (fun K hK => ?_)
  go_simp
  refine (refMac_any 16 16 m c6 _ A6 key L _ HK.out (by omega) (RB.of_CB B6.out (by rw [HK.out]; unfold maxLen; omega) HK.out) HM.out HMB.out H6.out).mono ?_
  rintro e w7 ⟨rfl, g7⟩
  have R7 := Lib.hid (R6.out.kept g7)
  have G7 := Lib.hid (grown_trans' G6.out g7)
  have BB7 := Lib.hid (BB6.out.trans (below_row g7 (by have := SS6.out; omega) (fun _ e => by cases e)))
  have SS7 := Lib.hid (Nat.le_trans SS6.out g7.size)
  have hb := BB7.out
  refine hK.out _ _ hb (fun hS => ?_)
  clear hb hK K g7
  try simp only [Act.put, List.setIfInBounds_toArray, List.set_cons_zero, List.set_cons_succ]
  refine heldb_one (i := 6) rfl (by kernel_rfl) rfl (fun K hK => ?_)
  go_simp
  refine (refKey_any (macOf key L) _ (macOf_length _ _)).mono ?_
  rintro e w8 ⟨rfl, g8⟩
  rw [HD.out]
  have R8 := Lib.hid (R7.out.kept g8)
  have G8 := Lib.hid (grown_trans' G7.out g8)
  have BB8 := Lib.hid (BB7.out.trans (below_row g8 (by have := SS7.out; omega) (fun _ e => by cases e)))
  have SS8 := Lib.hid (Nat.le_trans SS7.out g8.size)
  have hb := BB8.out
  refine hK.out _ _ hb (fun hS => ?_)
  clear hb hK K g8
  try simp only [Act.put, List.setIfInBounds_toArray, List.set_cons_zero, List.set_cons_succ]
  refine heldb_one (i := 7) rfl (by kernel_rfl) rfl (fun K hK => ?_)
  refine wp_storeC (d := none) (off := 0) (p := bcells D) agg16.hi rfl (.tmp 6) (.tmp 18) rfl (.agg (bcells D).toArray) rfl (bcells_one _) R8.out (by rw [bcells_length, HDL.out]) (by rw [bcells_length, zeros_length]; omega) rfl rfl ?_
  intro w9 h9 g9
  rw [over_all _ _ (by rw [bcells_length, bcells_length, HDL.out, zeros_length]; exact Nat.le_refl _)] at h9
  have hb := BB8.out.trans (below_row g9 (by have := SS8.out; omega) (fun g e => by injection e with e; omega))
  refine hK.out _ _ hb (fun hS => ?_)
  clear hb hK K
  refine held_end (by kernel_rfl) ?_ _
  go_wp2
  exact bodyPost_ret (results_C Tryd.underlying23 agg16.hi rfl _ h9 (by rw [bcells_length, HDL.out]) rfl) rfl ⟨rfl, none_new G8.out g9 (Nat.le_succ _)⟩
end Go.Proofs.YtndnmjolcilamaaDoor
