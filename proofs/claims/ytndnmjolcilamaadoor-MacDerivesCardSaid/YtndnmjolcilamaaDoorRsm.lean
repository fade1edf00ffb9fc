/- The walk of the document's Sum. -/
import Derived.Test.YtndnmjolcilamaaDoorRpk
namespace Go.Proofs.YtndnmjolcilamaaDoor
open Go.RowKit

set_option maxRecDepth 20000 in
set_option maxHeartbeats 4000000 in
theorem refSum_any (n cap : Nat) (A : Option Addr) (l : List UInt8) (w : World) (hn : l.length = n) (hc : n < 100000) (h : RB w w.heap.size A l cap) :
    Calls Tryd.prog 48 #[.slice A n cap] w fun e w' => e = .returned (.agg (bcells (shaOf l)).toArray) ∧ w.grownBy w' none := by
  have HN := Lib.hid hn
  have HC := Lib.hid hc
  have HL := Lib.hid h
  have HPL := Lib.hid (pad_len l)
  clear h hn hc
  go_enter Tryd.func48, Tryd.ntmps48
  go_wp2_with (first
    | refine wpList_allocC zeroB32 rfl rfl ?_
    | (go_at_call 60; refine (refConsts_any _).mono ?_; rintro e w1 ⟨rfl, hg1⟩; have G1 := Lib.hid (grown_trans' (grown_alloc w _ none) hg1); have HA1 := Lib.hid ((CB.new w 61 (bcells (zeros 32))).kept hg1); have S1 := Lib.hid (show w.heap.size < w1.heap.size by have := hg1.size; rw [World.size_alloc] at this; omega); clear hg1)
    | (have hx := HK2; clear hx; refine wpList_allocC zero8 rfl rfl ?_)
    | (refine wpList_allocC zero64 rfl rfl ?_)
    | (refine wpList_storeC (off := 0) (p := wcells roundK) sz64 rfl (.tmp 3) (.tmp 30) rfl (.agg (wcells roundK).toArray) rfl (wcells_one _) (CB.new w1 91 (wcells (wz 64))) rfl (by rw [wcells_length, wz_length]; omega) (by first | rfl | go_simp) (by first | rfl | go_simp) ?_; intro w2 h2 g2; rw [over64 _ rfl] at h2; have HK2 := Lib.hid h2; have G2 := Lib.hid (none_new (grown_trans' G1.out (grown_alloc w1 _ none)) g2 (Nat.le_of_lt S1.out)); have HA2 := Lib.hid ((HA1.out.alloc _).grown g2 (by have := S1.out; omega)); have S2 := Lib.hid (show w1.heap.size < w2.heap.size by have := g2.size; rw [World.size_alloc] at this; omega); clear h2 g2)
    | (refine wpList_storeC (off := 0) (p := wcells initW) szw8 rfl (.tmp 4) (.tmp 31) rfl (.agg (wcells initW).toArray) rfl (wcells_one _) (CB.new w2 93 (wcells (wz 8))) rfl (by rw [wcells_length, wz_length]; exact Nat.le_refl _) (by first | rfl | go_simp) (by kernel_rfl) ?_; intro w3 h3 g3; rw [overN 8 _ rfl _ (by rw [wcells_length, wz_length])] at h3; have HW3 := Lib.hid h3; have G3 := Lib.hid (none_new (grown_trans' G2.out (grown_alloc w2 _ none)) g3 (by have := S1.out; have := S2.out; omega)); have HA3 := Lib.hid ((HA2.out.alloc _).grown g3 (by have := S1.out; have := S2.out; omega)); have HK3 := Lib.hid ((HK2.out.alloc _).grown g3 (by have := S2.out; omega)); have S3 := Lib.hid (show w2.heap.size < w3.heap.size by have := g3.size; rw [World.size_alloc] at this; omega); clear h3 g3)
    | (go_at_call 61; refine (refPad_any n cap A l _ HN.out (by have := HC.out; omega) ((HL.out.kept G3.out (Nat.le_refl _)).more G3.out.size)).mono ?_; rintro e w4 ⟨v, rfl, ho4, hg4⟩; have HO4 := Lib.hid ho4; have HG4 := Lib.hid hg4; clear ho4 hg4))
  obtain ⟨P, hP⟩ : ∃ P, P = l ++ padBytes n := ⟨_, rfl⟩
  have ho := HO4.out
  rw [← hP] at ho
  obtain ⟨A5, c5, rfl, -, -⟩ := ho.shape
  obtain ⟨m, hm⟩ : ∃ m, P.length = 64 * m := ⟨P.length / 64, by have := HPL.out.1; rw [hP, ← HN.out]; omega⟩
  have hp64 : 64 ≤ P.length := by rw [hP, ← HN.out]; exact HPL.out.2
  obtain ⟨gp, pc, rfl, hcp, hgp, hpc⟩ := ho.row_of (by omega)
  obtain ⟨q, hq⟩ : ∃ q, q = P.length := ⟨_, rfl⟩
  rw [← hq]
  have HST := Lib.hid (show SumSt w w4 w4.heap.size w1.heap.size w2.heap.size gp pc (hashTo P 0) by
    rw [hash_zero]
    exact ⟨grown_trans' G3.out HG4.out, HA3.out.kept HG4.out, HK3.out.kept HG4.out, HW3.out.kept HG4.out, hcp, S1.out, S2.out, by have := S3.out; omega, hcp.lt, Nat.le_refl _⟩)
  have HPC := Lib.hid hpc
  have HQ := Lib.hid hq
  have HM := Lib.hid hm
  have HP := Lib.hid hP
  have HQB := Lib.hid (show q < 200000 by rw [hq, hP, List.length_append, HN.out, padBytes]; simp only [List.length_append, List.length_cons, List.length_nil, zeros_length, lenBytes_length, gapOf]; have := HC.out; omega)
  clear ho hp64 hcp hgp hpc hq hm hP
  go_wp2
  go_loopw [6] (fun i wr => ∃ j a : Nat, i = .int .i64 a ∧ a = 64 * j ∧ a ≤ q ∧ SumSt w wr w4.heap.size w1.heap.size w2.heap.size gp pc (hashTo P j)) (fun i _ => q - (intOf i).toNat)
  case atStart => exact ⟨0, 0, rfl, rfl, Nat.zero_le _, HST.out⟩
  case round =>
    obtain ⟨j, a, rfl, haj, haq, hst⟩ := hrel
    by_cases hlt : a < q
    · obtain ⟨wo, hwo⟩ : ∃ wo : World, wo = wr := ⟨_, rfl⟩
      rw [← hwo] at hst ⊢
      clear hwo
      have HS := Lib.hid hst
      have HAJ := Lib.hid haj
      have HJ := Lib.hid (show 64 * (j + 1) ≤ q by have := HM.out; have := HQ.out; omega)
      have hai : (a : Int) < (q : Int) := by omega
      clear hst haj haq hlt
      go_wp2_with (first
        | (refine wpList_allocC zero64 rfl rfl ?_)
        | (refine wpList_storeC (off := 0) (p := wcells (wz 64)) sz64 rfl (.tmp 7) (.tmp 40) rfl (.agg (wcells (wz 64)).toArray) rfl (wcells_one _) (CB.new wo 91 (wcells (wz 64))) rfl (by rw [wcells_length, wz_length]; omega) (by first | rfl | go_simp) (by first | rfl | kernel_rfl) ?_; intro w5 h5 g5; rw [over64 _ (by rw [wcells_length, wz_length])] at h5; have HX5 := Lib.hid h5; have HS5 := Lib.hid ((HS.out.alloc _).far g5 HS.out.sz); clear h5 g5))
      obtain ⟨bl, hbl⟩ : ∃ bl, bl = (P.drop a).take 64 := ⟨_, rfl⟩
      have HBE := Lib.hid hbl
      have HBL := Lib.hid (show bl.length = 64 by rw [hbl, List.length_take, List.length_drop]; have := HJ.out; have := HQ.out; have := HAJ.out; omega)
      have HBG := Lib.hid (show ∀ (k : Nat) (u : UInt8), bl[k]? = some u → pc[a + k]? = some (Value.int .u8 (u.toNat : Int)) from fun k u hu => by
        refine HPC.out _ _ ?_
        have hk : k < 64 := by have := (List.getElem?_eq_some_iff.1 hu).1; rw [HBL.out] at this; exact this
        rw [hbl, List.getElem?_take_of_lt hk, List.getElem?_drop] at hu
        exact hu)
      have HG7 := Lib.hid HS.out.sz
      have HAQ := Lib.hid (show a + 64 ≤ q by have := HJ.out; have := HAJ.out; omega)
      clear hbl hai
      go_loopw [8] (fun i wr => ∃ k : Nat, i = .int .i64 k ∧ k ≤ 64 ∧ SumSt w wr w4.heap.size w1.heap.size w2.heap.size gp pc (hashTo P j) ∧ CB wr wo.heap.size 91 (wcells (schedTo bl k))) (fun i _ => 64 - (intOf i).toNat)
      case atStart => exact ⟨0, rfl, by omega, HS5.out, HX5.out⟩
      case round =>
        obtain ⟨k, rfl, hk, hst, hx⟩ := hrel
        by_cases hlt : k < 64
        · by_cases h16 : k < 16
          · obtain ⟨k4, e4⟩ : ∃ z, z = 4 * k := ⟨_, rfl⟩
            obtain ⟨z, ez⟩ : ∃ z, z = a + k4 := ⟨_, rfl⟩
            obtain ⟨z1, ez1⟩ : ∃ z, z = a + (k4 + 1) := ⟨_, rfl⟩
            obtain ⟨z2, ez2⟩ : ∃ z, z = a + (k4 + 2) := ⟨_, rfl⟩
            obtain ⟨z3, ez3⟩ : ∃ z, z = a + (k4 + 3) := ⟨_, rfl⟩
            obtain ⟨b0, hb0⟩ : ∃ u, bl[k4]? = some u := ⟨_, List.getElem?_eq_getElem (by rw [HBL.out]; omega)⟩
            obtain ⟨b1, hb1⟩ : ∃ u, bl[k4 + 1]? = some u := ⟨_, List.getElem?_eq_getElem (by rw [HBL.out]; omega)⟩
            obtain ⟨b2, hb2⟩ : ∃ u, bl[k4 + 2]? = some u := ⟨_, List.getElem?_eq_getElem (by rw [HBL.out]; omega)⟩
            obtain ⟨b3, hb3⟩ : ∃ u, bl[k4 + 3]? = some u := ⟨_, List.getElem?_eq_getElem (by rw [HBL.out]; omega)⟩
            obtain ⟨x, y, u, hu, h1, h2, h3, e1, e2, e3, e4w, e5, e6, e7⟩ := word_pack b0 b1 b2 b3
            have HN16 := Lib.hid (show schedTo bl (k + 1) = (schedTo bl k).set k u by
              rw [schedTo, schedNew, if_pos h16, ← e4, getD_some hb0, getD_some hb1, getD_some hb2, getD_some hb3, hu])
            have c0 := hst.tx.at_ (HBG.out _ _ hb0)
            have c1 := hst.tx.at_ (HBG.out _ _ hb1)
            have c2 := hst.tx.at_ (HBG.out _ _ hb2)
            have c3 := hst.tx.at_ (HBG.out _ _ hb3)
            rw [← ez] at c0
            rw [← ez1] at c1
            rw [← ez2] at c2
            rw [← ez3] at c3
            have q1 : (4 : Int) * (k : Int) = (k4 : Int) := by omega
            have q2 : IntKind.i64.wrap (k4 : Int) = (k4 : Int) := by rw [IntKind.wrap_i64]; omega
            have hqb := HQB.out
            have haq := HAQ.out
            have q3 : (a : Int) + (k4 : Int) = (z : Int) := by omega
            have q4 : IntKind.i64.wrap (z : Int) = (z : Int) := by rw [IntKind.wrap_i64]; omega
            have q5 : IntKind.i64.wrap ((z : Int) + 1) = (z1 : Int) := by rw [IntKind.wrap_i64]; omega
            have q6 : IntKind.i64.wrap ((z : Int) + 2) = (z2 : Int) := by rw [IntKind.wrap_i64]; omega
            have q7 : IntKind.i64.wrap ((z : Int) + 3) = (z3 : Int) := by rw [IntKind.wrap_i64]; omega
            have l0 : (z : Int) < (q : Int) := by omega
            have l1 : (z1 : Int) < (q : Int) := by omega
            have l2 : (z2 : Int) < (q : Int) := by omega
            have l3 : (z3 : Int) < (q : Int) := by omega
            have hki : (k : Int) < 64 := by omega
            have hk16 : (k : Int) < 16 := by omega
            have HST2 := Lib.hid hst
            have HX2 := Lib.hid hx
            have HLT := Lib.hid hlt
            have HXL := Lib.hid (show k < (wcells (schedTo bl k)).length by rw [wcells_length, schedTo_length]; exact hlt)
            clear hst hx hk hb0 hb1 hb2 hb3 hu e4 ez ez1 ez2 ez3 hlt h16 hqb haq
            go_wp2
            go_still_tail 31, (by kernel_rfl)
            repeat still_step
            change wpList _ _ _ _ _ wr.drew
            clear q1 q2 q3 q4 q5 q6 q7 l0 l1 l2 l3 e1 e2 e3 e4w e5 e6 e7 h1 h2 h3 c0 c1 c2 c3
            go_wp2_with (refine wpList_setC sz32 rfl (.tmp 81) (.tmp 80) rfl .u32 _ HX2.out.drew HXL.out rfl rfl ?_; intro w6 h6 g6; rw [wcells_set, ← HN16.out] at h6; have HX6 := Lib.hid h6; have HS6 := Lib.hid (HST2.out.drew.far g6 HG7.out); clear h6 g6)
            go_roundw
            case rel => exact ⟨k + 1, by go_num, by have := HLT.out; omega, HS6.out, HX6.out⟩
            case measure => have := HLT.out; first | (simp [intOf]; done) | (simp [intOf]; omega)
          · obtain ⟨y2, e2⟩ : ∃ m, m = k - 2 := ⟨_, rfl⟩
            obtain ⟨y7, e7⟩ : ∃ m, m = k - 7 := ⟨_, rfl⟩
            obtain ⟨y15, e15⟩ : ∃ m, m = k - 15 := ⟨_, rfl⟩
            obtain ⟨y16, e16⟩ : ∃ m, m = k - 16 := ⟨_, rfl⟩
            obtain ⟨x2, h2⟩ : ∃ u, (schedTo bl k)[y2]? = some u := ⟨_, List.getElem?_eq_getElem (by rw [schedTo_length]; omega)⟩
            obtain ⟨x7, h7⟩ : ∃ u, (schedTo bl k)[y7]? = some u := ⟨_, List.getElem?_eq_getElem (by rw [schedTo_length]; omega)⟩
            obtain ⟨x15, h15⟩ : ∃ u, (schedTo bl k)[y15]? = some u := ⟨_, List.getElem?_eq_getElem (by rw [schedTo_length]; omega)⟩
            obtain ⟨x16, h16'⟩ : ∃ u, (schedTo bl k)[y16]? = some u := ⟨_, List.getElem?_eq_getElem (by rw [schedTo_length]; omega)⟩
            have hn := sched_old bl k h16 x2 x7 x15 x16 (by rw [← e2]; exact h2) (by rw [← e7]; exact h7) (by rw [← e15]; exact h15) (by rw [← e16]; exact h16')
            obtain ⟨ra, rb, ry, s0, hs0, ca, cb, xa, xb⟩ := early_pack x15
            obtain ⟨rc, rd, rz, s1, hs1, cc, cd, xc, xd⟩ := late_pack x2
            rw [← hs0, ← hs1] at hn
            obtain ⟨p1, p2, p3, hp3, a1, a2, a3⟩ := sum4_pack x16 s0 x7 s1
            rw [← hp3] at hn
            have HN64 := Lib.hid hn
            have HCA := Lib.hid ca
            have HCB := Lib.hid cb
            have HCC := Lib.hid cc
            have HCD := Lib.hid cd
            have c2 := hx.at_ (wcells_some h2)
            have c7 := Lib.hid (wcells_some h7)
            have c15 := hx.at_ (wcells_some h15)
            have c16 := Lib.hid (wcells_some h16')
            have w2 : IntKind.i64.wrap ((k : Int) - 2) = (y2 : Int) := by rw [IntKind.wrap_i64]; omega
            have w7 : IntKind.i64.wrap ((k : Int) - 7) = (y7 : Int) := by rw [IntKind.wrap_i64]; omega
            have w15 : IntKind.i64.wrap ((k : Int) - 15) = (y15 : Int) := by rw [IntKind.wrap_i64]; omega
            have w16 : IntKind.i64.wrap ((k : Int) - 16) = (y16 : Int) := by rw [IntKind.wrap_i64]; omega
            have b2 : (y2 : Int) < 64 := by omega
            have b7 : (y7 : Int) < 64 := by omega
            have b15 : (y15 : Int) < 64 := by omega
            have b16 : (y16 : Int) < 64 := by omega
            have hki : (k : Int) < 64 := by omega
            have hk16 : ¬ (k : Int) < 16 := by omega
            have HST2 := Lib.hid hst
            have HX2 := Lib.hid hx
            have HLT := Lib.hid hlt
            have HXL := Lib.hid (show k < (wcells (schedTo bl k)).length by rw [wcells_length, schedTo_length]; exact hlt)
            clear hst hx hk hlt h16 hn ca cb cc cd h2 h7 h15 h16' e2 e7 e15 e16 hs0 hs1 hp3
            go_wp2
            go_quiet (fail)
            have HS3 := Lib.hid (HST2.out.drewN nq)
            have HX3 := Lib.hid (HX2.out.drewN nq)
            clear c2 c15
            generalize wr.drewN nq = wz at *
            go_wp2_with (first
              | (go_at_call 62; with_reducible refine (HCA.out _).mono ?_; rintro e w7 ⟨rfl, rfl⟩)
              | (go_at_call 62; with_reducible refine (HCB.out _).mono ?_; rintro e w7 ⟨rfl, rfl⟩)
              | (go_at_call 62; with_reducible refine (HCC.out _).mono ?_; rintro e w7 ⟨rfl, rfl⟩)
              | (go_at_call 62; with_reducible refine (HCD.out _).mono ?_; rintro e w7 ⟨rfl, rfl⟩))
            have d16 := HX3.out.at_ c16.out
            have d7 := HX3.out.at_ c7.out
            go_still_tail 15, (by kernel_rfl)
            repeat still_step
            change wpList _ _ _ _ _ wz.drew
            clear w2 w7 w15 w16 xa xb xc xd a1 a2 a3 d7 d16
            go_wp2_with (refine wpList_setC sz32 rfl (.tmp 120) (.tmp 119) rfl .u32 _ HX3.out.drew HXL.out rfl rfl ?_; intro w6 h6 g6; rw [wcells_set, ← HN64.out] at h6; have HX6 := Lib.hid h6; have HS6 := Lib.hid (HS3.out.drew.far g6 HG7.out); clear h6 g6)
            go_roundw
            case rel => exact ⟨k + 1, by go_num, by have := HLT.out; omega, HS6.out, HX6.out⟩
            case measure => have := HLT.out; first | (simp [intOf]; done) | (simp [intOf]; omega)
        · obtain rfl : k = 64 := by omega
          have HS7 := Lib.hid hst
          have HX7 := Lib.hid (show CB wr wo.heap.size 91 (wcells (sched bl)) from hx)
          have HHL := Lib.hid (hash_len P j)
          clear hst hx hk hlt
          rw [show ((64 : Nat) : Int) = 64 from rfl]
          obtain ⟨wp, hwp⟩ : ∃ wp : World, wp = wr := ⟨_, rfl⟩
          rw [← hwp] at HS7 HX7 ⊢
          clear hwp
          go_wp2_with (first
            | refine wpList_loadC (off := 0) (p := wcells (hashTo P j)) agg8w rfl (.tmp 4) rfl HS7.out.wd (by rw [List.drop_zero]; exact List.take_of_length_le (by rw [wcells_length, hash_len]; exact Nat.le_refl _)) (by rw [wcells_length, hash_len]; exact Nat.le_refl _) rfl ?_
            | refine wpList_allocC zero8 rfl rfl ?_
            | (refine wpList_storeC (off := 0) (p := wcells (hashTo P j)) szw8 rfl (.tmp 14) (.tmp 121) rfl (.agg (wcells (hashTo P j)).toArray) rfl (wcells_one _) (CB.new wp 93 (wcells (wz 8))) (by rw [wcells_length, hash_len]) (by rw [wcells_length, wz_length]; exact Nat.le_refl _) (by first | rfl | go_simp) (by first | rfl | go_simp) ?_; intro w8 h8 g8; rw [overN 8 _ (by rw [wcells_length, hash_len]) _ (by rw [wcells_length, wz_length])] at h8; have HV8 := Lib.hid h8; have HS8 := Lib.hid ((HS7.out.alloc _).far g8 HS7.out.sz); have HX8 := Lib.hid ((HX7.out.alloc _).grown g8 (by have := HX7.out.lt; omega)); clear h8 g8))
          have HGP := Lib.hid (show w4.heap.size ≤ wp.heap.size from HS7.out.sz)
          have HOP := Lib.hid (show wo.heap.size < wp.heap.size from HX7.out.lt)
          go_loopw [15] (fun i wr => ∃ (k : Nat) (s : S8), i = .int .i64 k ∧ k ≤ 64 ∧ s = roundsTo (hashTo P j) (sched bl) k ∧ SumSt w wr w4.heap.size w1.heap.size w2.heap.size gp pc (hashTo P j) ∧ CB wr wo.heap.size 91 (wcells (sched bl)) ∧ CB wr wp.heap.size 93 (wcells s.list)) (fun i _ => 64 - (intOf i).toNat)
          case atStart => exact ⟨0, s8of (hashTo P j), rfl, by omega, rfl, HS8.out, HX8.out, by rw [s8_list _ HHL.out]; exact HV8.out⟩
          case round =>
            obtain ⟨k, s, rfl, hk, hs, hst, hx, hv⟩ := hrel
            by_cases hlt : k < 64
            · obtain ⟨x, hxk⟩ : ∃ u, (sched bl)[k]? = some u := ⟨_, List.getElem?_eq_getElem (by rw [sched_length]; omega)⟩
              obtain ⟨K, hK⟩ : ∃ u, roundK[k]? = some u := ⟨_, List.getElem?_eq_getElem (by rw [roundK_length]; omega)⟩
              have hn : stepS s K x = roundsTo (hashTo P j) (sched bl) (k + 1) := by rw [roundsTo, ← hs, getD_some hK, getD_some hxk]
              rw [step_old, lowOf] at hn
              obtain ⟨sa, sb, sc, sd, se, sf, sg, sh⟩ := s
              obtain ⟨ra, rb, rc, ry, sl, hsl, ca, cb, cc, xa, xb⟩ := low_pack se
              obtain ⟨m1, m2, m3, ch, hch, d1, d2, d3, d4⟩ := chs_pack se sf sg
              obtain ⟨p1, p2, p3, t1, ht1, a1, a2, a3, a4⟩ := sum5_pack sh sl ch K x
              obtain ⟨rd, re, rf, rz, su, hsu, cd, ce, cf, xc, xd⟩ := high_pack sa
              obtain ⟨n1, n2, n3, n4, mj, hmj, f1, f2, f3, f4, f5⟩ := maj_pack sa sb sc
              obtain ⟨q1, q2, hq2, j1, j2⟩ := sum3_pack t1 su mj
              obtain ⟨q4, hq4, j4⟩ := sum2_pack sd t1
              simp only at hn
              rw [← hsl, ← hch, ← ht1, ← hsu, ← hmj, ← hq2, ← hq4] at hn
              have HN64 := Lib.hid hn
              have HCA := Lib.hid ca
              have HCB := Lib.hid cb
              have HCC := Lib.hid cc
              have HCD := Lib.hid cd
              have HCE := Lib.hid ce
              have HCF := Lib.hid cf
              have HST2 := Lib.hid hst
              have HX2 := Lib.hid hx
              have HV2 := Lib.hid (show CB wr wp.heap.size 93 (wcells [sa, sb, sc, sd, se, sf, sg, sh]) from hv)
              have HXK := Lib.hid (wcells_some hxk)
              have HKK := Lib.hid (wcells_some hK)
              have HLT := Lib.hid hlt
              have hki : (k : Int) < 64 := by omega
              have v0 := HV2.out.at_ (i := 0) (v := .int .u32 (sa.toNat : Int)) rfl
              have v1 := HV2.out.at_ (i := 1) (v := .int .u32 (sb.toNat : Int)) rfl
              have v2 := HV2.out.at_ (i := 2) (v := .int .u32 (sc.toNat : Int)) rfl
              have v4 := HV2.out.at_ (i := 4) (v := .int .u32 (se.toNat : Int)) rfl
              have v5 := HV2.out.at_ (i := 5) (v := .int .u32 (sf.toNat : Int)) rfl
              have v6 := HV2.out.at_ (i := 6) (v := .int .u32 (sg.toNat : Int)) rfl
              clear hst hx hv hk hlt hn hs hxk hK hsl hch ht1 hsu hmj hq2 hq4 ca cb cc cd ce cf
              go_wp2
              go_quiet (fail)
              have HS3 := Lib.hid (HST2.out.drewN nq)
              have HX3 := Lib.hid (HX2.out.drewN nq)
              have HV3 := Lib.hid (HV2.out.drewN nq)
              clear v0 v1 v2 v4 v5 v6
              generalize wr.drewN nq = wz at *
              go_wp2_with (first
                | (go_at_call 62; with_reducible refine (HCA.out _).mono ?_; rintro e w7 ⟨rfl, rfl⟩)
                | (go_at_call 62; with_reducible refine (HCB.out _).mono ?_; rintro e w7 ⟨rfl, rfl⟩)
                | (go_at_call 62; with_reducible refine (HCC.out _).mono ?_; rintro e w7 ⟨rfl, rfl⟩))
              have v7 := HV3.out.at_ (i := 7) (v := .int .u32 (sh.toNat : Int)) rfl
              have vk := HS3.out.con.at_ HKK.out
              have vx := HX3.out.at_ HXK.out
              clear xa xb d1 d2 d3 d4
              go_quiet (fail)
              have HS4 := Lib.hid (HS3.out.drewN nq)
              have HX4 := Lib.hid (HX3.out.drewN nq)
              have HV4 := Lib.hid (HV3.out.drewN nq)
              clear v7 vk vx a1 a2 a3 a4
              generalize wz.drewN nq = wy at *
              have v3 := HV4.out.at_ (i := 3) (v := .int .u32 (sd.toNat : Int)) rfl
              go_wp2_with (first
                | (go_at_call 62; with_reducible refine (HCD.out _).mono ?_; rintro e w7 ⟨rfl, rfl⟩)
                | (go_at_call 62; with_reducible refine (HCE.out _).mono ?_; rintro e w7 ⟨rfl, rfl⟩)
                | (go_at_call 62; with_reducible refine (HCF.out _).mono ?_; rintro e w7 ⟨rfl, rfl⟩)
                | (refine wpList_storeC (off := 0) (p := wcells [q2, sa, sb, sc, q4, se, sf, sg]) szw8 rfl (.tmp 14) (.tmp 202) rfl (.agg (wcells [q2, sa, sb, sc, q4, se, sf, sg]).toArray) rfl (wcells_one _) HV4.out rfl (by rw [wcells_length]; exact Nat.le_refl _) (by first | rfl | go_simp) (by first | rfl | go_simp) ?_; intro w6 h6 g6; rw [overN 8 _ rfl _ rfl] at h6; have HV6 := Lib.hid h6; have HS6 := Lib.hid (HS4.out.far g6 HGP.out); have HX6 := Lib.hid (HX4.out.grown g6 (by have := HOP.out; omega)); clear h6 g6))
              go_roundw
              case rel => exact ⟨k + 1, _, by go_num, by have := HLT.out; omega, HN64.out, HS6.out, HX6.out, HV6.out⟩
              case measure => have := HLT.out; first | (simp [intOf]; done) | (simp [intOf]; omega)
            · obtain rfl : k = 64 := by omega
              have HF := Lib.hid (show s.list = finOf (hashTo P j) bl by rw [finOf, hs])
              have HFL := Lib.hid (show (finOf (hashTo P j) bl).length = 8 by rw [← HF.out]; rfl)
              have HS9 := Lib.hid hst
              have HV9 := Lib.hid (show CB wr wp.heap.size 93 (wcells (finOf (hashTo P j) bl)) by rw [← HF.out]; exact hv)
              clear hst hx hv hk hlt hs
              have HLL := Lib.hid (show (compress (hashTo P j) bl).length = (hashTo P j).length by rw [compress_length, HHL.out])
              rw [show ((64 : Nat) : Int) = 64 from rfl]
              obtain ⟨wq, hwq⟩ : ∃ wq : World, wq = wr := ⟨_, rfl⟩
              rw [← hwq] at HS9 HV9 ⊢
              clear hwq
              obtain ⟨a', ha'⟩ : ∃ a', a' = a + 64 := ⟨_, rfl⟩
              have wa : IntKind.i64.wrap ((a : Int) + 64) = (a' : Int) := by rw [IntKind.wrap_i64]; have := HAQ.out; have := HQB.out; omega
              have HA' := Lib.hid ha'
              clear ha'
              go_wp2
              go_loopw [27] (fun i wr => ∃ k : Nat, i = .int .i64 k ∧ k ≤ 8 ∧ SumSt w wr w4.heap.size w1.heap.size w2.heap.size gp pc (mix (compress (hashTo P j) bl) (hashTo P j) k) ∧ CB wr wp.heap.size 93 (wcells (finOf (hashTo P j) bl))) (fun i _ => 8 - (intOf i).toNat)
              case atStart => exact ⟨0, rfl, by omega, by rw [mix_zero]; exact HS9.out, HV9.out⟩
              case round =>
                obtain ⟨k, rfl, hk, hst, hv⟩ := hrel
                have hml : (mix (compress (hashTo P j) bl) (hashTo P j) k).length = 8 := by rw [mix_length _ _ _ HLL.out, HHL.out]
                by_cases hlt : k < 8
                · obtain ⟨x, hx⟩ : ∃ u, (finOf (hashTo P j) bl)[k]? = some u := ⟨_, List.getElem?_eq_getElem (by rw [HFL.out]; omega)⟩
                  obtain ⟨y, hy⟩ : ∃ u, (hashTo P j)[k]? = some u := ⟨_, List.getElem?_eq_getElem (by rw [HHL.out]; omega)⟩
                  have ck := hst.wd.at_ (wcells_some (show (mix (compress (hashTo P j) bl) (hashTo P j) k)[k]? = some y by rw [mix_get _ _ HLL.out _ _ (Nat.le_refl _), hy]))
                  have cv := hv.at_ (wcells_some hx)
                  obtain ⟨z, hz, a1⟩ := sum2_pack y x
                  have hak : (compress (hashTo P j) bl)[k]? = some z := by
                    rw [compress, List.getElem?_map, List.getElem?_range hlt, Option.map_some, getD_some hx, getD_some hy, hz]
                  have HSE := Lib.hid (mix_set (compress (hashTo P j) bl) (hashTo P j) HLL.out k _ hak)
                  have HS10 := Lib.hid hst
                  have HV10 := Lib.hid hv
                  have HLT := Lib.hid hlt
                  have HXL := Lib.hid (show k < (wcells (mix (compress (hashTo P j) bl) (hashTo P j) k)).length by rw [wcells_length, hml]; exact hlt)
                  have hki : (k : Int) < 8 := by omega
                  clear hst hv hak hx hy hz hml hk hlt
                  go_wp2
                  go_still_tail 8, (by kernel_rfl)
                  repeat still_step
                  change wpList _ _ _ _ _ wr.drew
                  clear ck cv a1
                  go_wp2_with (refine wpList_setC sz32 rfl (.tmp 214) (.tmp 213) rfl .u32 _ HS10.out.drew.wd HXL.out rfl rfl ?_; intro w6 h6 g6; rw [wcells_set, HSE.out] at h6; have HS6 := Lib.hid (HS10.out.drew.put g6 h6); have HV6 := Lib.hid (HV10.out.drew.grown g6 (by have := HS10.out.lt4; have := HGP.out; omega)); clear h6 g6)
                  go_roundw
                  case rel => exact ⟨k + 1, by go_num, by have := HLT.out; omega, HS6.out, HV6.out⟩
                  case measure => have := HLT.out; first | (simp [intOf]; done) | (simp [intOf]; omega)
                · obtain rfl : k = 8 := by omega
                  rw [mix_all _ _ (by rw [HHL.out]; exact Nat.le_refl _) (by rw [compress_length]; exact Nat.le_refl _)] at hst
                  have HS11 := Lib.hid (show SumSt w wr w4.heap.size w1.heap.size w2.heap.size gp pc (hashTo P (j + 1)) by
                    rw [hash_step P j (by rw [← HQ.out]; exact HJ.out), ← HAJ.out, ← HBE.out]
                    exact hst)
                  clear hst hv hml hk hlt
                  rw [show ((8 : Nat) : Int) = 8 from rfl]
                  go_wp2
                  go_roundw
                  case rel => exact ⟨j + 1, a', rfl, by rw [HA'.out, HAJ.out]; omega, by rw [HA'.out]; exact HAQ.out, HS11.out⟩
                  case measure => have := HAQ.out; have := HA'.out; simp [intOf]; omega
    · have hje : 64 * j = (l ++ padBytes l.length).length := by rw [HN.out, ← HP.out, ← HQ.out]; omega
      have HHL := Lib.hid (hash_len P j)
      have he : hashTo P j = (padOf (newH.adds l)).ws := by rw [HP.out, ← HN.out]; exact hash_last l j hje
      rw [he] at hst HHL
      have hqa : q = a := by omega
      subst hqa
      have HS9 := Lib.hid hst
      clear hst haj haq hlt he hje
      obtain ⟨wo, hwo⟩ : ∃ wo : World, wo = wr := ⟨_, rfl⟩
      rw [← hwo] at HS9 ⊢
      clear hwo
      go_wp2_with (first
        | refine wpList_allocC zeroB32 rfl rfl ?_
        | (refine wpList_storeC (off := 0) (p := bcells (zeros 32)) agg32.hi rfl (.tmp 28) (.tmp 215) rfl (.agg (bcells (zeros 32)).toArray) rfl (bcells_one _) (CB.new wo 61 (bcells (zeros 32))) (by rw [bcells_length, zeros_length]) (by rw [bcells_length, zeros_length]; exact Nat.le_refl _) (by first | rfl | go_simp) (by first | rfl | kernel_rfl) ?_; intro w6 h6 g6; rw [over_all _ _ (Nat.le_refl _)] at h6; have HO6 := Lib.hid h6; have HS6 := Lib.hid ((HS9.out.alloc _).far g6 HS9.out.sz); clear h6 g6))
      have HGO := Lib.hid (show w4.heap.size ≤ wo.heap.size from HS9.out.sz)
      go_loopw [29] (fun i wr => ∃ k : Nat, i = .int .i64 k ∧ k ≤ 32 ∧ SumSt w wr w4.heap.size w1.heap.size w2.heap.size gp pc (padOf (newH.adds l)).ws ∧ CB wr wo.heap.size 61 (bcells (mix (shaOf l) (zeros 32) k))) (fun i _ => 32 - (intOf i).toNat)
      case atStart => exact ⟨0, rfl, by omega, HS6.out, by rw [mix_zero]; exact HO6.out⟩
      case round =>
        obtain ⟨k, rfl, hk, hst, ho⟩ := hrel
        have hml : (mix (shaOf l) (zeros 32) k).length = 32 := by rw [mix_length _ _ _ (by rw [shaOf_length, zeros_length]), zeros_length]
        by_cases hlt : k < 32
        · obtain ⟨r, hr⟩ : ∃ r, r = k % 4 := ⟨_, rfl⟩
          obtain ⟨d, hd⟩ : ∃ d, d = k / 4 := ⟨_, rfl⟩
          obtain ⟨u, hu⟩ : ∃ u, (padOf (newH.adds l)).ws[d]? = some u := ⟨_, List.getElem?_eq_getElem (by rw [HHL.out]; omega)⟩
          have cu := hst.wd.at_ (wcells_some hu)
          have t1 : (k : Int).tdiv 4 = (d : Int) := by rw [Int.tdiv_eq_ediv_of_nonneg (by omega)]; omega
          have t2 : (k : Int).tmod 4 = (r : Int) := by rw [Int.tmod_eq_emod_of_nonneg (by omega)]; omega
          have t3 : IntKind.i64.wrap (d : Int) = (d : Int) := by rw [IntKind.wrap_i64]; omega
          have hki : (k : Int) < 32 := by omega
          have hdi : (d : Int) < 8 := by omega
          have hub := u.toNat_lt
          obtain ⟨y0, y1, y2, y3, hy, f0, f1, f2, f3⟩ := byte_pack u
          have HXL := Lib.hid (show k < (bcells (mix (shaOf l) (zeros 32) k)).length by rw [bcells_length, hml]; exact hlt)
          have HLT := Lib.hid hlt
          have HS10 := Lib.hid hst
          have HO10 := Lib.hid ho
          have HSE := Lib.hid (show ∀ y, (bytesOf u)[r]? = some y → (mix (shaOf l) (zeros 32) k).set k y = mix (shaOf l) (zeros 32) (k + 1) from fun y hy' => mix_set _ _ (by rw [shaOf_length, zeros_length]) k y (sha_at l k hlt u (by rw [← hd]; exact hu) y (by rw [← hr]; exact hy')))
          rw [hy] at HSE
          have hr4 : r < 4 := by omega
          clear hst ho hml hk hlt hu hr hd hy
          rcases (by omega : r = 0 ∨ r = 1 ∨ r = 2 ∨ r = 3) with rfl | rfl | rfl | rfl
          · rw [show ((0 : Nat) : Int) = 0 from rfl] at t2
            go_wp2_with (refine wpList_setC sz8 rfl (.tmp 232) (.tmp 231) rfl .u8 (y0.toNat : Int) HO10.out HXL.out rfl (by first | rfl | go_simp) ?_; intro w6 h6 g6; rw [bcells_set', HSE.out _ rfl] at h6; have HO7 := Lib.hid h6; have HS7 := Lib.hid (HS10.out.far g6 HGO.out); clear h6 g6)
            go_roundw
            case rel => exact ⟨k + 1, by go_num, by have := HLT.out; omega, HS7.out, HO7.out⟩
            case measure => have := HLT.out; first | (simp [intOf]; done) | (simp [intOf]; omega)
          · rw [show ((1 : Nat) : Int) = 1 from rfl] at t2
            go_wp2_with (refine wpList_setC sz8 rfl (.tmp 232) (.tmp 231) rfl .u8 (y1.toNat : Int) HO10.out HXL.out rfl (by first | rfl | go_simp) ?_; intro w6 h6 g6; rw [bcells_set', HSE.out _ rfl] at h6; have HO7 := Lib.hid h6; have HS7 := Lib.hid (HS10.out.far g6 HGO.out); clear h6 g6)
            go_roundw
            case rel => exact ⟨k + 1, by go_num, by have := HLT.out; omega, HS7.out, HO7.out⟩
            case measure => have := HLT.out; first | (simp [intOf]; done) | (simp [intOf]; omega)
          · rw [show ((2 : Nat) : Int) = 2 from rfl] at t2
            go_wp2_with (refine wpList_setC sz8 rfl (.tmp 232) (.tmp 231) rfl .u8 (y2.toNat : Int) HO10.out HXL.out rfl (by first | rfl | go_simp) ?_; intro w6 h6 g6; rw [bcells_set', HSE.out _ rfl] at h6; have HO7 := Lib.hid h6; have HS7 := Lib.hid (HS10.out.far g6 HGO.out); clear h6 g6)
            go_roundw
            case rel => exact ⟨k + 1, by go_num, by have := HLT.out; omega, HS7.out, HO7.out⟩
            case measure => have := HLT.out; first | (simp [intOf]; done) | (simp [intOf]; omega)
          · rw [show ((3 : Nat) : Int) = 3 from rfl] at t2
            go_wp2_with (refine wpList_setC sz8 rfl (.tmp 232) (.tmp 231) rfl .u8 (y3.toNat : Int) HO10.out HXL.out rfl (by first | rfl | go_simp) ?_; intro w6 h6 g6; rw [bcells_set', HSE.out _ rfl] at h6; have HO7 := Lib.hid h6; have HS7 := Lib.hid (HS10.out.far g6 HGO.out); clear h6 g6)
            go_roundw
            case rel => exact ⟨k + 1, by go_num, by have := HLT.out; omega, HS7.out, HO7.out⟩
            case measure => have := HLT.out; first | (simp [intOf]; done) | (simp [intOf]; omega)
        · obtain rfl : k = 32 := by omega
          rw [mix_all _ _ (by rw [zeros_length]; exact Nat.le_refl _) (by rw [shaOf_length]; exact Nat.le_refl _)] at ho
          have HS7 := Lib.hid hst
          have HO7 := Lib.hid ho
          clear hst ho hml hk hlt
          rw [show ((32 : Nat) : Int) = 32 from rfl]
          go_wp2_with (first
            | refine wpList_loadC (off := 0) (p := bcells (shaOf l)) agg32 rfl (.tmp 28) rfl HO7.out (by rw [List.drop_zero]; exact List.take_of_length_le (by rw [bcells_length, shaOf_length]; exact Nat.le_refl _)) (by rw [bcells_length, shaOf_length]; exact Nat.le_refl _) rfl ?_
            | (refine wpList_storeC (off := 0) (p := bcells (shaOf l)) agg32.hi rfl (.tmp 2) (.tmp 233) rfl (.agg (bcells (shaOf l)).toArray) rfl (bcells_one _) HS7.out.ans (by rw [bcells_length, shaOf_length]) (by rw [bcells_length, zeros_length]; exact Nat.le_refl _) rfl rfl ?_; intro w9 h9 g9; rw [over_all _ _ (by rw [bcells_length, bcells_length, shaOf_length, zeros_length]; exact Nat.le_refl _)] at h9))
          exact bodyPost_ret (results_C Tryd.underlying61 agg32.hi rfl _ h9 (by rw [bcells_length, shaOf_length]) rfl) rfl ⟨rfl, none_new HS7.out.g g9 (Nat.le_refl _)⟩
end Go.Proofs.YtndnmjolcilamaaDoor
