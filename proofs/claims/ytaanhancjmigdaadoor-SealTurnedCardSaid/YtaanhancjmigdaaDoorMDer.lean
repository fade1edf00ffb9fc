/- The walks of mac's keyOf and Derive. -/
import Derived.Test.YtaanhancjmigdaaDoorMBr
namespace Go.Proofs.YtaanhancjmigdaaDoor
open Go.RowKit

theorem zeroB16 (w : World) : (zeroValue 23).run Tryd.prog w = .ok (.agg (bcells (zeros 16)).toArray) w := by kernel_rfl
theorem agg16 : AggT Tryd.prog 23 16 := ⟨fun w => by kernel_rfl, by kernel_rfl⟩

set_option maxRecDepth 10000 in
set_option maxHeartbeats 400000 in
theorem keyOf_any (h : List UInt8) (w : World) (hl : h.length = 32) :
    Calls Tryd.prog 37 #[.agg (bcells h).toArray] w fun e w' => e = .returned (.agg (bcells (h.take 16)).toArray) ∧ w.grownBy w' none := by
  have HL := Lib.hid hl
  obtain ⟨k, hk⟩ : ∃ k, k = h.take 16 := ⟨_, rfl⟩
  rw [← hk]
  have HK := Lib.hid (show ((bcells h).drop 0).take 16 = bcells k by rw [hk, List.drop_zero]; simp [bcells])
  have HKL := Lib.hid (show k.length = 16 by rw [hk, List.length_take, hl]; rfl)
  clear hl hk
  go_enter Tryd.func37, Tryd.ntmps37
  have HB := Lib.hid (show CB ((w.alloc (.cells (bcells h).toArray 59)).alloc (.cells (bcells (zeros 16)).toArray 23)) w.heap.size 59 (bcells h) from (CB.new w _ _).alloc _)
  have HR := Lib.hid (show CB ((w.alloc (.cells (bcells h).toArray 59)).alloc (.cells (bcells (zeros 16)).toArray 23)) (w.heap.size + 1) 23 (bcells (zeros 16)) from CB.new1 w _ _ _)
  have HG := Lib.hid (grown_trans' (grown_alloc w (.cells (bcells h).toArray 59) none) (grown_alloc _ (.cells (bcells (zeros 16)).toArray 23) none))
  have ha := run_arrayAt (P := Tryd.prog) Tryd.underlying23 (some ⟨w.heap.size, 0, none⟩) 16 32 (by omega) ((w.alloc (.cells (bcells h).toArray 59)).alloc (.cells (bcells (zeros 16)).toArray 23))
  go_wp2_with (first
    | refine wpList_allocC zeroB16 rfl rfl ?_
    | refine wpList_loadC (off := 0) (p := bcells k) agg16 rfl (.tmp 4) rfl HB.out HK.out (by rw [bcells_length, HL.out]; omega) (by first | rfl | go_simp) ?_
    | (refine wpList_storeC (off := 0) (p := bcells k) agg16.hi rfl (.tmp 2) (.tmp 5) rfl (.agg (bcells k).toArray) rfl (bcells_one _) HR.out (by rw [bcells_length, HKL.out]) (by rw [bcells_length, zeros_length]; omega) (by first | rfl | go_simp) rfl ?_; intro w8 h8 g8; rw [over_all _ _ (by rw [bcells_length, bcells_length, HKL.out, zeros_length]; exact Nat.le_refl _)] at h8))
  exact bodyPost_ret (results_C Tryd.underlying23 agg16.hi rfl _ h8 (by rw [bcells_length, HKL.out]) rfl) rfl ⟨rfl, none_new HG.out g8 (Nat.le_succ _)⟩

/-- The key that a label names. -/
def deriveOf (key label : List UInt8) (n : Nat) : List UInt8 := (macOf key (label ++ [0] ++ numB n)).take 16
theorem deriveOf_length (key label : List UInt8) (n : Nat) : (deriveOf key label n).length = 16 := by rw [deriveOf, List.length_take, macOf_length]; rfl
theorem numB_length (n : Nat) : (numB n).length ≤ 8 := by rw [numB, List.length_reverse]; exact leB_length 8 n

set_option maxRecDepth 10000 in
set_option maxHeartbeats 400000 in
theorem derive_any (key : List UInt8) (s : ByteArray) (ls : List UInt8) (n : Nat) (w : World) (hT : TB w) (hk : key.length = 16) (hs : s.data.toList = ls) (hl : ls.length < 10000) (hn : n < 18446744073709551616) :
    Calls Tryd.prog 23 #[.agg (bcells key).toArray, .string s, .int .u64 n] w fun e w' => e = .returned (.agg (bcells (deriveOf key ls n)).toArray) ∧ w.grownBy w' none := by
  have HT := Lib.hid hT
  have HK := Lib.hid hk
  have HS := Lib.hid hs
  have HLS := Lib.hid hl
  have HSS := Lib.hid (show s.size ≤ 70368744177664 by have : s.size = s.data.toList.length := rfl; rw [this, hs]; omega)
  have HN := Lib.hid hn
  obtain ⟨D, hD⟩ : ∃ D, D = deriveOf key ls n := ⟨_, rfl⟩
  rw [← hD]
  have HDL := Lib.hid (show D.length = 16 by rw [hD, deriveOf_length])
  obtain ⟨L, hL⟩ : ∃ L, L = ls ++ [0] ++ numB n := ⟨_, rfl⟩
  have HD := Lib.hid (show (macOf key L).take 16 = D by rw [hD, deriveOf, hL])
  have HNL := Lib.hid (numB_length n)
  have HLL := Lib.hid hL
  clear hL
  clear hT hk hs hl hn hD
  go_enter Tryd.func23, Tryd.ntmps23
  have HB := Lib.hid (show CB ((w.alloc (.cells (bcells key).toArray 23)).alloc (.cells (bcells (zeros 16)).toArray 23)) w.heap.size 23 (bcells key) from (CB.new w _ _).alloc _)
  have HR := Lib.hid (show CB ((w.alloc (.cells (bcells key).toArray 23)).alloc (.cells (bcells (zeros 16)).toArray 23)) (w.heap.size + 1) 23 (bcells (zeros 16)) from CB.new1 w _ _ _)
  have HG := Lib.hid (grown_trans' (grown_alloc w (.cells (bcells key).toArray 23) none) (grown_alloc _ (.cells (bcells (zeros 16)).toArray 23) none))
  have HSZ := Lib.hid (show ((w.alloc (.cells (bcells key).toArray 23)).alloc (.cells (bcells (zeros 16)).toArray 23)).heap.size = w.heap.size + 2 by rw [World.size_alloc, World.size_alloc])
  go_wp2_with (first
    | refine wpList_allocC zeroB16 rfl rfl ?_
    | (refine wpList_convG byteT Tryd.underlying9 rfl (.tmp 8) rfl s HSS.out rfl ?_; intro v2 w2 o2 g2 _; rw [HS.out, HSZ.out] at o2; have O2 := Lib.hid (o2.kept (grown_alloc w2 (.cells #[.int .u8 0] 5) none)); have B2 := Lib.hid ((HB.out.kept g2).alloc (.cells #[.int .u8 0] 5)); have R2 := Lib.hid ((HR.out.kept g2).alloc (.cells #[.int .u8 0] 5)); have G2 := Lib.hid (grown_trans' (grown_trans' HG.out g2) (grown_alloc w2 (.cells #[.int .u8 0] 5) none)); have S2 := Lib.hid (show w.heap.size + 2 ≤ w2.heap.size by rw [← HSZ.out]; exact g2.size); clear o2 g2)
    | (at_builtin; have hx := S5; clear hx; refine wpList_appG byteT rfl (.tmp 12) (.tmp 14) rfl O5.out H5.out rfl rfl (by rw [List.length_append]; have := HLS.out; have := HNL.out; simp; omega) S5.out ?_; intro v6 w6 o6 g6 _; rw [← HLL.out] at o6; have hne := fun g hg => (O5.out.lt_ g hg).1; have B6 := Lib.hid (B5.out.row g6 (fun g hg => by have := hne g hg; omega)); have R6 := Lib.hid (R5.out.row g6 (fun g hg => by have := hne g hg; omega)); have G6 := Lib.hid (grownR G5.out g6 (fun g hg => by have := hne g hg; omega)); obtain ⟨A6, c6, rfl, r6, -⟩ := o6.shape; obtain ⟨m, hm⟩ : ∃ m, L.length = m := ⟨_, rfl⟩; rw [hm]; have HM := Lib.hid hm; have HMB := Lib.hid (show m < 1000000 by rw [← hm, HLL.out, List.length_append, List.length_append]; have := HLS.out; have := HNL.out; simp; omega); have H6 := Lib.hid r6; clear o6 g6 hne r6 hm)
    | (at_builtin; refine wpList_appG byteT rfl (.tmp 9) (.tmp 10) rfl O2.out (RB.new1 w2 5 0 0 rfl (w2.heap.size + 1) (Nat.lt_succ_self _)) rfl rfl (by have := HLS.out; simp; omega) (by rw [World.size_alloc]; have := S2.out; omega) ?_; intro v3 w3 o3 g3 _; have hne := fun g hg => (O2.out.lt_ g hg).1; have B3 := Lib.hid (B2.out.row g3 (fun g hg => by have := hne g hg; omega)); have R3 := Lib.hid (R2.out.row g3 (fun g hg => by have := hne g hg; omega)); have G3 := Lib.hid (grownR G2.out g3 (fun g hg => by have := hne g hg; omega)); have S3 := Lib.hid (Nat.le_trans (Nat.le_trans S2.out (by rw [World.size_alloc]; omega)) g3.size); have O3 := Lib.hid o3; clear o3 g3 hne)
    | (go_at_call 36; refine (num_any n _ HN.out).mono ?_; rintro e5 w5 ⟨v5, rfl, o5, b5⟩; have g5 := none_of_below b5 (Nat.le_refl _); obtain ⟨A5, c5, rfl, r5, -⟩ := o5.shape; have H5 := Lib.hid r5; have O5 := Lib.hid (O3.out.kept g5); have B5 := Lib.hid (B3.out.kept g5); have R5 := Lib.hid (R3.out.kept g5); have G5 := Lib.hid (grown_trans' G3.out g5); have S5 := Lib.hid (Nat.le_trans S3.out g5.size); clear o5 b5 g5 r5)
    | (go_at_call 24; refine (macSum_any 16 16 m c6 _ A6 key L _ (HT.out.grown G6.out (fun e => by cases e)) HK.out (by omega) (RB.of_CB B6.out (by rw [HK.out]; unfold maxLen; omega) HK.out) HM.out HMB.out H6.out).mono ?_; rintro e7 w7 ⟨rfl, g7⟩; have R7 := Lib.hid (R6.out.kept g7); have G7 := Lib.hid (grown_trans' G6.out g7); clear g7)
    | (go_at_call 37; refine (keyOf_any (macOf key L) _ (macOf_length _ _)).mono ?_; rintro e8 w8 ⟨rfl, g8⟩; rw [HD.out]; have R8 := Lib.hid (R7.out.kept g8); have G8 := Lib.hid (grown_trans' G7.out g8); clear g8)
    | (refine wpList_storeC (off := 0) (p := bcells D) agg16.hi rfl (.tmp 6) (.tmp 19) rfl (.agg (bcells D).toArray) rfl (bcells_one _) R8.out (by rw [bcells_length, HDL.out]) (by rw [bcells_length, zeros_length]; omega) rfl rfl ?_; intro w9 h9 g9; rw [over_all _ _ (by rw [bcells_length, bcells_length, HDL.out, zeros_length]; exact Nat.le_refl _)] at h9))
  exact bodyPost_ret (results_C Tryd.underlying23 agg16.hi rfl _ h9 (by rw [bcells_length, HDL.out]) rfl) rfl ⟨rfl, none_new G8.out g9 (Nat.le_succ _)⟩
end Go.Proofs.YtaanhancjmigdaaDoor
