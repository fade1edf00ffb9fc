/- The walks of the document's Write and WriteGrant. -/
import Derived.Test.YtnaoagiphehcaaaDoorTkp
import Derived.Deep.Cut
namespace Go.Proofs.YtnaoagiphehcaaaDoor
open Go.RowKit

set_option maxRecDepth 10000 in
set_option maxHeartbeats 4000000 in
theorem refWriteT_any (c s : ByteArray) (lc ls k : List UInt8) (st en fl : Int) (w : World) (hdc : c.data.toList = lc) (hds : s.data.toList = ls) (hk : k.length = 16) (hlc : lc.length ≤ 10000) (hls : ls.length ≤ 10000) :
    Calls Tryd.prog 18 #[.agg (tcells c s k st en fl).toArray] w fun e w' => WroteR w (tOk lc ls st en fl) (bytesF (tFields lc ls k st.toNat en.toNat fl.toNat)) e w' := by
  have HDc := Lib.hid hdc
  have HLc := Lib.hid hlc
  have HSZc := Lib.hid (show c.size ≤ 70368744177664 by have : c.size = c.data.toList.length := rfl; rw [this, hdc]; omega)
  have HDs := Lib.hid hds
  have HLs := Lib.hid hls
  have HSZs := Lib.hid (show s.size ≤ 70368744177664 by have : s.size = s.data.toList.length := rfl; rw [this, hds]; omega)
  have HK := Lib.hid hk
  have B0 := Lib.hid (CB.new w 25 (tcells c s k st en fl))
  have G0 := Lib.hid (grown_alloc w (.cells (tcells c s k st en fl).toArray 25) none)
  cases hok : tOk lc ls st en fl with
  | false =>
    have HOK := Lib.hid hok
    clear hdc hlc hds hls hk hok
    go_enter Tryd.func18, Tryd.ntmps18
    go_wp2_with (first
      | refine wpList_loadC (off := 0) (p := tcells c s k st en fl) aggTr rfl (.tmp 1) rfl B0.out (by rw [List.drop_zero]; exact List.take_of_length_le (by rw [tcells_length _ _ _ _ _ _ HK.out]; exact Nat.le_refl _)) (by rw [tcells_length _ _ _ _ _ _ HK.out]; omega) (by first | rfl | go_simp) ?_
      | (go_at_call 56; refine (refRightT_any c s lc ls k st en fl _ HDc.out HDs.out HK.out HLc.out HLs.out).mono ?_; rintro e w1 ⟨rfl, g1⟩; rw [HOK.out]; have G1 := Lib.hid (grown_trans' G0.out g1); have B1 := Lib.hid (B0.out.kept g1); clear g1))
    go_ret2
    exact WroteR.no ⟨_, _, rfl, Nat.le_refl _, Nat.zero_le _, .inr ⟨_, rfl, fun k u hu => by simp at hu⟩⟩ (grown_trans' G1.out (grown_alloc _ _ _))
  | true =>
  have HOK := Lib.hid hok
  obtain ⟨xs, rfl⟩ : ∃ t : Nat, st = t := ⟨st.toNat, by have := tOk_int hok; omega⟩
  obtain ⟨xe, rfl⟩ : ∃ t : Nat, en = t := ⟨en.toNat, by have := tOk_int hok; omega⟩
  obtain ⟨xf, rfl⟩ : ∃ t : Nat, fl = t := ⟨fl.toNat, by have := tOk_int hok; omega⟩
  have HTst := Lib.hid (show xs ≤ 1099511627776 by have := tOk_int hok; omega)
  have HWst := Lib.hid (wrap_nat xs (by have := tOk_int hok; omega))
  have HTen := Lib.hid (show xe ≤ 1099511627776 by have := tOk_int hok; omega)
  have HWen := Lib.hid (wrap_nat xe (by have := tOk_int hok; omega))
  have HTfl := Lib.hid (show xf ≤ 1099511627776 by have := tOk_int hok; omega)
  have HWfl := Lib.hid (wrap_nat xf (by have := tOk_int hok; omega))
  obtain ⟨F0, hF0⟩ : ∃ F, fieldB (1, lc) = F := ⟨_, rfl⟩
  have HF0 := Lib.hid hF0
  obtain ⟨F1, hF1⟩ : ∃ F, fieldB (2, ls) = F := ⟨_, rfl⟩
  have HF1 := Lib.hid hF1
  obtain ⟨F2, hF2⟩ : ∃ F, fieldB (3, k) = F := ⟨_, rfl⟩
  have HF2 := Lib.hid hF2
  obtain ⟨F3, hF3⟩ : ∃ F, fieldB (4, numB xs) = F := ⟨_, rfl⟩
  have HF3 := Lib.hid hF3
  obtain ⟨F4, hF4⟩ : ∃ F, fieldB (5, numB xe) = F := ⟨_, rfl⟩
  have HF4 := Lib.hid hF4
  obtain ⟨F5, hF5⟩ : ∃ F, fieldB (6, numB xf) = F := ⟨_, rfl⟩
  have HF5 := Lib.hid hF5
  have HE := Lib.hid (show ((((F0 ++ F1) ++ F2) ++ F3) ++ F4) ++ F5 = bytesF (tFields lc ls k ((xs : Int)).toNat ((xe : Int)).toNat ((xf : Int)).toNat) by rw [← hF0, ← hF1, ← hF2, ← hF3, ← hF4, ← hF5]; simp [bytesF, tFields])
  have L0 := Lib.hid (show F0.length ≤ 20000 by rw [← hF0, fieldB_length]; simp only; omega)
  have L1 := Lib.hid (show F1.length ≤ 20000 by rw [← hF1, fieldB_length]; simp only; omega)
  have L2 := Lib.hid (show F2.length ≤ 20000 by rw [← hF2, fieldB_length]; simp only; omega)
  have L3 := Lib.hid (show F3.length ≤ 20000 by rw [← hF3, fieldB_length]; have := numB_length xs; simp only; omega)
  have L4 := Lib.hid (show F4.length ≤ 20000 by rw [← hF4, fieldB_length]; have := numB_length xe; simp only; omega)
  have L5 := Lib.hid (show F5.length ≤ 20000 by rw [← hF5, fieldB_length]; have := numB_length xf; simp only; omega)
  obtain ⟨zc, hzc⟩ : ∃ n, lc.length = n := ⟨_, rfl⟩
  have HNc := Lib.hid hzc
  obtain ⟨zs, hzs⟩ : ∃ n, ls.length = n := ⟨_, rfl⟩
  have HNs := Lib.hid hzs
  obtain ⟨CS, hcs⟩ : ∃ C, C = tcells c s k (xs : Int) (xe : Int) (xf : Int) := ⟨_, rfl⟩
  have HQc := Lib.hid (show CS[0]? = some (.string c) by rw [hcs]; exact tcells_c _ _ _ _ _ _ hk)
  have HQs := Lib.hid (show CS[1]? = some (.string s) by rw [hcs]; exact tcells_s _ _ _ _ _ _ hk)
  have HQst := Lib.hid (show CS[18]? = some (.int .i64 (xs : Int)) by rw [hcs]; exact tcells_st _ _ _ _ _ _ hk)
  have HQen := Lib.hid (show CS[19]? = some (.int .i64 (xe : Int)) by rw [hcs]; exact tcells_en _ _ _ _ _ _ hk)
  have HQfl := Lib.hid (show CS[20]? = some (.int .i64 (xf : Int)) by rw [hcs]; exact tcells_fl _ _ _ _ _ _ hk)
  have HQk := Lib.hid (show (CS.drop 2).take k.length = bcells k by rw [hcs]; exact tcells_key _ _ _ _ _ _)
  rw [← HE.out]
  clear hdc hlc hds hls hk hok hF0 hF1 hF2 hF3 hF4 hF5 hzc hzs
  go_enter Tryd.func18, Tryd.ntmps18
  go_wp2_with (first
    | refine wpList_loadC (off := 0) (p := tcells c s k (xs : Int) (xe : Int) (xf : Int)) aggTr rfl (.tmp 1) rfl B0.out (by rw [List.drop_zero]; exact List.take_of_length_le (by rw [tcells_length _ _ _ _ _ _ HK.out]; exact Nat.le_refl _)) (by rw [tcells_length _ _ _ _ _ _ HK.out]; omega) (by first | rfl | go_simp) ?_
    | (go_at_call 56; refine (refRightT_any c s lc ls k (xs : Int) (xe : Int) (xf : Int) _ HDc.out HDs.out HK.out HLc.out HLs.out).mono ?_; rintro e w1 ⟨rfl, g1⟩; rw [HOK.out]; have G1 := Lib.hid (grown_trans' G0.out g1); have B1 := Lib.hid (B0.out.kept g1); clear g1))
  have B1 := Lib.hid (show CB w1 w.heap.size 25 CS by rw [hcs]; exact B1.out)
  clear hcs B0
  go_cut [4] from 5 (fun s4 wx => OwnG wx (w.heap.size + 1) 5 s4 (F0 ++ F1) ∧ CB wx w.heap.size 25 CS ∧ w.grownBy wx none)
  case first =>
    refine heldb_begin (w.heap.size + 1) (by kernel_rfl) (fun hS => ?_)
    have B4 := Lib.hid (show CB w1.drew w.heap.size 25 CS from B1.out)
    have G4 := Lib.hid (grown_drew G1.out)
    have S4 := Lib.hid (show w.heap.size + 1 ≤ w1.drew.heap.size from B1.out.lt)
    have T4 := Lib.hid (World.grownBy.refl w1.drew none)
    generalize w1.drew = wd at *
    have Q0 := Lib.hid (B4.out.at_ HQc.out)
    have Q1 := Lib.hid (B4.out.at_ HQs.out)
    refine heldb_take (i := 0) (d := some 9) (v := ?v0) (by assumption) rfl rfl (by kernel_rfl) (fun _ _ _ h => h) ?y0 ?_; case y0 => (refine Or.inl ⟨rfl, fun wx hS => ?_⟩; go_simp; try with_reducible rfl)
    try simp only [Act.put, List.setIfInBounds_toArray, List.set_cons_zero, List.set_cons_succ]
    refine heldb_take (i := 1) (d := some 10) (v := ?v1) (by assumption) rfl rfl (by kernel_rfl) (fun _ _ _ h => h) ?y1 ?_; case y1 => (refine Or.inl ⟨rfl, fun wx hS => ?_⟩; have q := (hS.cell (p := ⟨w.heap.size, 0, none⟩) (Nat.lt_succ_self _)).trans Q0.out; go_simp; try with_reducible rfl)
    try simp only [Act.put, List.setIfInBounds_toArray, List.set_cons_zero, List.set_cons_succ]
    refine heldb_take (i := 4) (d := some 13) (v := ?v4) (by assumption) rfl rfl (by kernel_rfl) (fun _ _ _ h => h) ?y4 ?_; case y4 => (refine Or.inl ⟨rfl, fun wx hS => ?_⟩; go_simp; try with_reducible rfl)
    try simp only [Act.put, List.setIfInBounds_toArray, List.set_cons_zero, List.set_cons_succ]
    refine heldb_take (i := 5) (d := some 14) (v := ?v5) (by assumption) rfl rfl (by kernel_rfl) (fun _ _ _ h => h) ?y5 ?_; case y5 => (refine Or.inl ⟨rfl, fun wx hS => ?_⟩; have q := (hS.cell (p := ⟨w.heap.size, 1, none⟩) (Nat.lt_succ_self _)).trans Q1.out; go_simp; try with_reducible rfl)
    try simp only [Act.put, List.setIfInBounds_toArray, List.set_cons_zero, List.set_cons_succ]
    refine heldb_two (i := 2) (j := 6) (by kernel_rfl) rfl rfl rfl rfl (fun K hK => ?_) (fun K hK => ?_)
    · refine wp_convG (d := some 11) byteT Tryd.underlying9 rfl (.tmp 10) rfl c HSZc.out rfl ?_
      intro v5 w5 o5 g5 _
      rw [HDc.out] at o5
      obtain ⟨A5, c5, rfl, r5, -⟩ := o5.shape
      rw [HNc.out]
      have B5 := Lib.hid (B4.out.kept g5)
      have G5 := Lib.hid (grown_trans' G4.out g5)
      have T5 := Lib.hid (grown_trans' T4.out g5)
      have S5 := Lib.hid (Nat.le_trans S4.out g5.size)
      have Ran5 := Lib.hid r5
      have hb := below_row (B := w.heap.size + 1) T5.out S4.out (fun _ e => by cases e)
      refine hK.out _ _ hb (fun hS => ?_)
      clear hb hK K g5 o5 r5
      try simp only [Act.put, List.setIfInBounds_toArray, List.set_cons_zero, List.set_cons_succ]
      refine heldb_two (i := 3) (j := 6) (by kernel_rfl) rfl rfl rfl rfl (fun K hK => ?_) (fun K hK => ?_)
      · go_simp
        refine (fieldN_any 1 A5 lc c5 zc _ (by omega) (by omega) (by have := HLc.out; have := HNc.out; omega) HNc.out Ran5.out).mono ?_
        rintro e w6 ⟨v6, rfl, o6, b6⟩
        rw [HF0.out] at o6
        have g6 := none_of_below b6 (Nat.le_refl _)
        have B6 := Lib.hid (B5.out.kept g6)
        have G6 := Lib.hid (grown_trans' G5.out g6)
        have T6 := Lib.hid (grown_trans' T5.out g6)
        have S6 := Lib.hid (Nat.le_trans S5.out g6.size)
        have On6 := Lib.hid (o6.toG.base_ S5.out)
        have hb := below_row (B := w.heap.size + 1) T6.out S4.out (fun _ e => by cases e)
        refine hK.out _ _ hb (fun hS => ?_)
        clear hb hK K g6 o6 b6
        try simp only [Act.put, List.setIfInBounds_toArray, List.set_cons_zero, List.set_cons_succ]
        refine heldb_one (i := 6) rfl (by kernel_rfl) rfl (fun K hK => ?_)
        refine wp_convG (d := some 15) byteT Tryd.underlying9 rfl (.tmp 14) rfl s HSZs.out rfl ?_
        intro v7 w7 o7 g7 _
        rw [HDs.out] at o7
        obtain ⟨A7, c7, rfl, r7, -⟩ := o7.shape
        rw [HNs.out]
        have B7 := Lib.hid (B6.out.kept g7)
        have G7 := Lib.hid (grown_trans' G6.out g7)
        have T7 := Lib.hid (grown_trans' T6.out g7)
        have S7 := Lib.hid (Nat.le_trans S6.out g7.size)
        have O7 := Lib.hid (On6.out.kept g7)
        have Rbn7 := Lib.hid r7
        have hb := below_row (B := w.heap.size + 1) T7.out S4.out (fun _ e => by cases e)
        refine hK.out _ _ hb (fun hS => ?_)
        clear hb hK K g7 o7 r7
        try simp only [Act.put, List.setIfInBounds_toArray, List.set_cons_zero, List.set_cons_succ]
        refine heldb_one (i := 7) rfl (by kernel_rfl) rfl (fun K hK => ?_)
        go_simp
        refine (fieldN_any 2 A7 ls c7 zs _ (by omega) (by omega) (by have := HLs.out; have := HNs.out; omega) HNs.out Rbn7.out).mono ?_
        rintro e w8 ⟨v8, rfl, o8, b8⟩
        rw [HF1.out] at o8
        have g8 := none_of_below b8 (Nat.le_refl _)
        obtain ⟨A8, c8, rfl, r8, -⟩ := o8.shape
        have B8 := Lib.hid (B7.out.kept g8)
        have G8 := Lib.hid (grown_trans' G7.out g8)
        have T8 := Lib.hid (grown_trans' T7.out g8)
        have S8 := Lib.hid (Nat.le_trans S7.out g8.size)
        have O8 := Lib.hid (O7.out.kept g8)
        have Rbn8 := Lib.hid r8
        have hb := below_row (B := w.heap.size + 1) T8.out S4.out (fun _ e => by cases e)
        refine hK.out _ _ hb (fun hS => ?_)
        clear hb hK K g8 o8 r8 b8
        try simp only [Act.put, List.setIfInBounds_toArray, List.set_cons_zero, List.set_cons_succ]
        refine heldb_one (i := 8) rfl (by kernel_rfl) rfl (fun K hK => ?_)
        refine wp_appG (d := some 17) byteT rfl (.tmp 12) (.tmp 16) rfl O8.out Rbn8.out rfl rfl (by have := L0.out; have := L1.out; omega) S8.out ?_
        intro v9 w9 o9 g9 _
        have hne := fun g hg => (O8.out.lt_ g hg).1
        have O9 := Lib.hid o9
        have B9 := Lib.hid (B8.out.row g9 (fun g hg => by have := hne g hg; omega))
        have G9 := Lib.hid (grownR G8.out g9 (fun g hg => by have := hne g hg; omega))
        have hb := Below.trans (below_row (B := w.heap.size + 1) T8.out S4.out (fun _ e => by cases e)) (below_row g9 S8.out (fun g hg => by have := hne g hg; omega))
        refine hK.out _ _ hb (fun hS => ?_)
        clear hb hK K o9 g9 hne
        try simp only [Act.put, List.setIfInBounds_toArray, List.set_cons_zero, List.set_cons_succ]
        refine heldb_take (i := 9) (d := some 4) (v := v9) (by assumption) rfl rfl (by kernel_rfl) (fun _ _ _ h => h) ?y9 ?_; case y9 => (refine Or.inl ⟨rfl, fun wx hS => ?_⟩; go_simp; try with_reducible rfl)
        try simp only [Act.put, List.setIfInBounds_toArray, List.set_cons_zero, List.set_cons_succ]
        refine held_end (by kernel_rfl) ?_ _
        go_wp2
        go_meet
        case rel => exact ⟨O9.out, B9.out, G9.out⟩
      · refine wp_convG (d := some 15) byteT Tryd.underlying9 rfl (.tmp 14) rfl s HSZs.out rfl ?_
        intro v10 w10 o10 g10 _
        rw [HDs.out] at o10
        obtain ⟨A10, c10, rfl, r10, -⟩ := o10.shape
        rw [HNs.out]
        have B10 := Lib.hid (B5.out.kept g10)
        have G10 := Lib.hid (grown_trans' G5.out g10)
        have T10 := Lib.hid (grown_trans' T5.out g10)
        have S10 := Lib.hid (Nat.le_trans S5.out g10.size)
        have Ra10 := Lib.hid (Ran5.out.kept2 g10)
        have Rbn10 := Lib.hid r10
        have hb := below_row (B := w.heap.size + 1) T10.out S4.out (fun _ e => by cases e)
        refine hK.out _ _ hb (fun hS => ?_)
        clear hb hK K g10 o10 r10
        try simp only [Act.put, List.setIfInBounds_toArray, List.set_cons_zero, List.set_cons_succ]
        refine heldb_one (i := 3) rfl (by kernel_rfl) rfl (fun K hK => ?_)
        go_simp
        refine (fieldN_any 1 A5 lc c5 zc _ (by omega) (by omega) (by have := HLc.out; have := HNc.out; omega) HNc.out Ra10.out).mono ?_
        rintro e w11 ⟨v11, rfl, o11, b11⟩
        rw [HF0.out] at o11
        have g11 := none_of_below b11 (Nat.le_refl _)
        have B11 := Lib.hid (B10.out.kept g11)
        have G11 := Lib.hid (grown_trans' G10.out g11)
        have T11 := Lib.hid (grown_trans' T10.out g11)
        have S11 := Lib.hid (Nat.le_trans S10.out g11.size)
        have Rb11 := Lib.hid (Rbn10.out.kept2 g11)
        have On11 := Lib.hid (o11.toG.base_ S10.out)
        have hb := below_row (B := w.heap.size + 1) T11.out S4.out (fun _ e => by cases e)
        refine hK.out _ _ hb (fun hS => ?_)
        clear hb hK K g11 o11 b11
        try simp only [Act.put, List.setIfInBounds_toArray, List.set_cons_zero, List.set_cons_succ]
        refine heldb_one (i := 7) rfl (by kernel_rfl) rfl (fun K hK => ?_)
        go_simp
        refine (fieldN_any 2 A10 ls c10 zs _ (by omega) (by omega) (by have := HLs.out; have := HNs.out; omega) HNs.out Rb11.out).mono ?_
        rintro e w12 ⟨v12, rfl, o12, b12⟩
        rw [HF1.out] at o12
        have g12 := none_of_below b12 (Nat.le_refl _)
        obtain ⟨A12, c12, rfl, r12, -⟩ := o12.shape
        have B12 := Lib.hid (B11.out.kept g12)
        have G12 := Lib.hid (grown_trans' G11.out g12)
        have T12 := Lib.hid (grown_trans' T11.out g12)
        have S12 := Lib.hid (Nat.le_trans S11.out g12.size)
        have O12 := Lib.hid (On11.out.kept g12)
        have Rbn12 := Lib.hid r12
        have hb := below_row (B := w.heap.size + 1) T12.out S4.out (fun _ e => by cases e)
        refine hK.out _ _ hb (fun hS => ?_)
        clear hb hK K g12 o12 r12 b12
        try simp only [Act.put, List.setIfInBounds_toArray, List.set_cons_zero, List.set_cons_succ]
        refine heldb_one (i := 8) rfl (by kernel_rfl) rfl (fun K hK => ?_)
        refine wp_appG (d := some 17) byteT rfl (.tmp 12) (.tmp 16) rfl O12.out Rbn12.out rfl rfl (by have := L0.out; have := L1.out; omega) S12.out ?_
        intro v13 w13 o13 g13 _
        have hne := fun g hg => (O12.out.lt_ g hg).1
        have O13 := Lib.hid o13
        have B13 := Lib.hid (B12.out.row g13 (fun g hg => by have := hne g hg; omega))
        have G13 := Lib.hid (grownR G12.out g13 (fun g hg => by have := hne g hg; omega))
        have hb := Below.trans (below_row (B := w.heap.size + 1) T12.out S4.out (fun _ e => by cases e)) (below_row g13 S12.out (fun g hg => by have := hne g hg; omega))
        refine hK.out _ _ hb (fun hS => ?_)
        clear hb hK K o13 g13 hne
        try simp only [Act.put, List.setIfInBounds_toArray, List.set_cons_zero, List.set_cons_succ]
        refine heldb_take (i := 9) (d := some 4) (v := v13) (by assumption) rfl rfl (by kernel_rfl) (fun _ _ _ h => h) ?y9 ?_; case y9 => (refine Or.inl ⟨rfl, fun wx hS => ?_⟩; go_simp; try with_reducible rfl)
        try simp only [Act.put, List.setIfInBounds_toArray, List.set_cons_zero, List.set_cons_succ]
        refine held_end (by kernel_rfl) ?_ _
        go_wp2
        go_meet
        case rel => exact ⟨O13.out, B13.out, G13.out⟩
    · refine wp_convG (d := some 15) byteT Tryd.underlying9 rfl (.tmp 14) rfl s HSZs.out rfl ?_
      intro v14 w14 o14 g14 _
      rw [HDs.out] at o14
      obtain ⟨A14, c14, rfl, r14, -⟩ := o14.shape
      rw [HNs.out]
      have B14 := Lib.hid (B4.out.kept g14)
      have G14 := Lib.hid (grown_trans' G4.out g14)
      have T14 := Lib.hid (grown_trans' T4.out g14)
      have S14 := Lib.hid (Nat.le_trans S4.out g14.size)
      have Rbn14 := Lib.hid r14
      have hb := below_row (B := w.heap.size + 1) T14.out S4.out (fun _ e => by cases e)
      refine hK.out _ _ hb (fun hS => ?_)
      clear hb hK K g14 o14 r14
      try simp only [Act.put, List.setIfInBounds_toArray, List.set_cons_zero, List.set_cons_succ]
      refine heldb_one (i := 2) rfl (by kernel_rfl) rfl (fun K hK => ?_)
      refine wp_convG (d := some 11) byteT Tryd.underlying9 rfl (.tmp 10) rfl c HSZc.out rfl ?_
      intro v15 w15 o15 g15 _
      rw [HDc.out] at o15
      obtain ⟨A15, c15, rfl, r15, -⟩ := o15.shape
      rw [HNc.out]
      have B15 := Lib.hid (B14.out.kept g15)
      have G15 := Lib.hid (grown_trans' G14.out g15)
      have T15 := Lib.hid (grown_trans' T14.out g15)
      have S15 := Lib.hid (Nat.le_trans S14.out g15.size)
      have Rb15 := Lib.hid (Rbn14.out.kept2 g15)
      have Ran15 := Lib.hid r15
      have hb := below_row (B := w.heap.size + 1) T15.out S4.out (fun _ e => by cases e)
      refine hK.out _ _ hb (fun hS => ?_)
      clear hb hK K g15 o15 r15
      try simp only [Act.put, List.setIfInBounds_toArray, List.set_cons_zero, List.set_cons_succ]
      refine heldb_one (i := 3) rfl (by kernel_rfl) rfl (fun K hK => ?_)
      go_simp
      refine (fieldN_any 1 A15 lc c15 zc _ (by omega) (by omega) (by have := HLc.out; have := HNc.out; omega) HNc.out Ran15.out).mono ?_
      rintro e w16 ⟨v16, rfl, o16, b16⟩
      rw [HF0.out] at o16
      have g16 := none_of_below b16 (Nat.le_refl _)
      have B16 := Lib.hid (B15.out.kept g16)
      have G16 := Lib.hid (grown_trans' G15.out g16)
      have T16 := Lib.hid (grown_trans' T15.out g16)
      have S16 := Lib.hid (Nat.le_trans S15.out g16.size)
      have Rb16 := Lib.hid (Rb15.out.kept2 g16)
      have On16 := Lib.hid (o16.toG.base_ S15.out)
      have hb := below_row (B := w.heap.size + 1) T16.out S4.out (fun _ e => by cases e)
      refine hK.out _ _ hb (fun hS => ?_)
      clear hb hK K g16 o16 b16
      try simp only [Act.put, List.setIfInBounds_toArray, List.set_cons_zero, List.set_cons_succ]
      refine heldb_one (i := 7) rfl (by kernel_rfl) rfl (fun K hK => ?_)
      go_simp
      refine (fieldN_any 2 A14 ls c14 zs _ (by omega) (by omega) (by have := HLs.out; have := HNs.out; omega) HNs.out Rb16.out).mono ?_
      rintro e w17 ⟨v17, rfl, o17, b17⟩
      rw [HF1.out] at o17
      have g17 := none_of_below b17 (Nat.le_refl _)
      obtain ⟨A17, c17, rfl, r17, -⟩ := o17.shape
      have B17 := Lib.hid (B16.out.kept g17)
      have G17 := Lib.hid (grown_trans' G16.out g17)
      have T17 := Lib.hid (grown_trans' T16.out g17)
      have S17 := Lib.hid (Nat.le_trans S16.out g17.size)
      have O17 := Lib.hid (On16.out.kept g17)
      have Rbn17 := Lib.hid r17
      have hb := below_row (B := w.heap.size + 1) T17.out S4.out (fun _ e => by cases e)
      refine hK.out _ _ hb (fun hS => ?_)
      clear hb hK K g17 o17 r17 b17
      try simp only [Act.put, List.setIfInBounds_toArray, List.set_cons_zero, List.set_cons_succ]
      refine heldb_one (i := 8) rfl (by kernel_rfl) rfl (fun K hK => ?_)
      refine wp_appG (d := some 17) byteT rfl (.tmp 12) (.tmp 16) rfl O17.out Rbn17.out rfl rfl (by have := L0.out; have := L1.out; omega) S17.out ?_
      intro v18 w18 o18 g18 _
      have hne := fun g hg => (O17.out.lt_ g hg).1
      have O18 := Lib.hid o18
      have B18 := Lib.hid (B17.out.row g18 (fun g hg => by have := hne g hg; omega))
      have G18 := Lib.hid (grownR G17.out g18 (fun g hg => by have := hne g hg; omega))
      have hb := Below.trans (below_row (B := w.heap.size + 1) T17.out S4.out (fun _ e => by cases e)) (below_row g18 S17.out (fun g hg => by have := hne g hg; omega))
      refine hK.out _ _ hb (fun hS => ?_)
      clear hb hK K o18 g18 hne
      try simp only [Act.put, List.setIfInBounds_toArray, List.set_cons_zero, List.set_cons_succ]
      refine heldb_take (i := 9) (d := some 4) (v := v18) (by assumption) rfl rfl (by kernel_rfl) (fun _ _ _ h => h) ?y9 ?_; case y9 => (refine Or.inl ⟨rfl, fun wx hS => ?_⟩; go_simp; try with_reducible rfl)
      try simp only [Act.put, List.setIfInBounds_toArray, List.set_cons_zero, List.set_cons_succ]
      refine held_end (by kernel_rfl) ?_ _
      go_wp2
      go_meet
      case rel => exact ⟨O18.out, B18.out, G18.out⟩
  case rest =>
    obtain ⟨O8, B8, G8⟩ := hcut
    have hsz := B8.lt
    have O8 := Lib.hid O8
    have B8 := Lib.hid B8
    have G8 := Lib.hid G8
    have S8 := Lib.hid (show w.heap.size + 1 ≤ wc.heap.size from hsz)
    clear hsz
    have RK8 := Lib.hid (RB.inside B8.out HQk.out (by rw [HK.out]; simp [maxLen]))
    rw [HK.out] at RK8
    have qst := B8.out.at_ HQst.out
    have qen := B8.out.at_ HQen.out
    have qfl := B8.out.at_ HQfl.out
    have TK8 := Lib.hid True.intro
    have hws := HWst.out
    have hwe := HWen.out
    have hwf := HWfl.out
    go_wp2_with (first
      | (at_builtin; have hx := TK15; clear hx; refine wpList_appG byteT rfl (.tmp 35) (.tmp 39) rfl O15.out R15.out rfl rfl (by simp only [List.length_append]; have := L0.out; have := L1.out; have := L2.out; have := L3.out; have := L4.out; have := L5.out; omega) S15.out ?_; intro v16 w16 o16 g16 _; have hne := fun g hg => (O15.out.lt_ g hg).1; have O16 := Lib.hid o16.isB; have G16 := Lib.hid (grownR G15.out g16 (fun g hg => by have := hne g hg; omega)); clear o16 g16 hne)
      | (go_at_call 58; have hx := TK14; clear hx; refine (refNumF_any 6 xf _ (by omega) (by omega) (by have := HTfl.out; omega)).mono ?_; rintro e w15 ⟨v15, rfl, o15, g15⟩; rw [HF5.out] at o15; obtain ⟨A15, c15, rfl, r15⟩ := o15; have R15 := Lib.hid r15; have O15 := Lib.hid (O14.out.kept g15); have B15 := Lib.hid (B14.out.kept g15); have G15 := Lib.hid (grown_trans' G14.out g15); have S15 := Lib.hid (Nat.le_trans S14.out g15.size); have TK15 := Lib.hid True.intro; clear g15 r15)
      | (at_builtin; have hx := TK13; clear hx; refine wpList_appG byteT rfl (.tmp 29) (.tmp 33) rfl O13.out R13.out rfl rfl (by simp only [List.length_append]; have := L0.out; have := L1.out; have := L2.out; have := L3.out; have := L4.out; omega) S13.out ?_; intro v14 w14 o14 g14 _; have hne := fun g hg => (O13.out.lt_ g hg).1; have O14 := Lib.hid o14; have B14 := Lib.hid (B13.out.row g14 (fun g hg => by have := hne g hg; omega)); have G14 := Lib.hid (grownR G13.out g14 (fun g hg => by have := hne g hg; omega)); have S14 := Lib.hid (Nat.le_trans S13.out g14.size); clear qst qen qfl; have qst := B14.out.at_ HQst.out; have qen := B14.out.at_ HQen.out; have qfl := B14.out.at_ HQfl.out; have TK14 := Lib.hid True.intro; clear o14 g14 hne)
      | (go_at_call 58; have hx := TK12; clear hx; refine (refNumF_any 5 xe _ (by omega) (by omega) (by have := HTen.out; omega)).mono ?_; rintro e w13 ⟨v13, rfl, o13, g13⟩; rw [HF4.out] at o13; obtain ⟨A13, c13, rfl, r13⟩ := o13; have R13 := Lib.hid r13; have O13 := Lib.hid (O12.out.kept g13); have B13 := Lib.hid (B12.out.kept g13); have G13 := Lib.hid (grown_trans' G12.out g13); have S13 := Lib.hid (Nat.le_trans S12.out g13.size); have TK13 := Lib.hid True.intro; clear g13 r13)
      | (at_builtin; have hx := TK11; clear hx; refine wpList_appG byteT rfl (.tmp 23) (.tmp 27) rfl O11.out R11.out rfl rfl (by simp only [List.length_append]; have := L0.out; have := L1.out; have := L2.out; have := L3.out; omega) S11.out ?_; intro v12 w12 o12 g12 _; have hne := fun g hg => (O11.out.lt_ g hg).1; have O12 := Lib.hid o12; have B12 := Lib.hid (B11.out.row g12 (fun g hg => by have := hne g hg; omega)); have G12 := Lib.hid (grownR G11.out g12 (fun g hg => by have := hne g hg; omega)); have S12 := Lib.hid (Nat.le_trans S11.out g12.size); clear qst qen qfl; have qst := B12.out.at_ HQst.out; have qen := B12.out.at_ HQen.out; have qfl := B12.out.at_ HQfl.out; have TK12 := Lib.hid True.intro; clear o12 g12 hne)
      | (go_at_call 58; have hx := TK10; clear hx; refine (refNumF_any 4 xs _ (by omega) (by omega) (by have := HTst.out; omega)).mono ?_; rintro e w11 ⟨v11, rfl, o11, g11⟩; rw [HF3.out] at o11; obtain ⟨A11, c11, rfl, r11⟩ := o11; have R11 := Lib.hid r11; have O11 := Lib.hid (O10.out.kept g11); have B11 := Lib.hid (B10.out.kept g11); have G11 := Lib.hid (grown_trans' G10.out g11); have S11 := Lib.hid (Nat.le_trans S10.out g11.size); have TK11 := Lib.hid True.intro; clear g11 r11)
      | (at_builtin; have hx := TK9; clear hx; refine wpList_appG byteT rfl (.tmp 18) (.tmp 21) rfl O9.out R9.out rfl rfl (by simp only [List.length_append]; have := L0.out; have := L1.out; have := L2.out; omega) S9.out ?_; intro v10 w10 o10 g10 _; have hne := fun g hg => (O9.out.lt_ g hg).1; have O10 := Lib.hid o10; have B10 := Lib.hid (B9.out.row g10 (fun g hg => by have := hne g hg; omega)); have G10 := Lib.hid (grownR G9.out g10 (fun g hg => by have := hne g hg; omega)); have S10 := Lib.hid (Nat.le_trans S9.out g10.size); clear qst qen qfl; have qst := B10.out.at_ HQst.out; have qen := B10.out.at_ HQen.out; have qfl := B10.out.at_ HQfl.out; have TK10 := Lib.hid True.intro; clear o10 g10 hne)
      | (go_at_call 57; refine (fieldN_any 3 _ k _ 16 _ (by omega) (by omega) (by omega) HK.out RK8.out).mono ?_; rintro e w9 ⟨v9, rfl, o9, b9⟩; rw [HF2.out] at o9; have g9 := none_of_below b9 (Nat.le_refl _); obtain ⟨A9, c9, rfl, r9, -⟩ := o9.shape; have R9 := Lib.hid r9; have O9 := Lib.hid (O8.out.kept g9); have B9 := Lib.hid (B8.out.kept g9); have G9 := Lib.hid (grown_trans' G8.out g9); have S9 := Lib.hid (Nat.le_trans S8.out g9.size); have TK9 := Lib.hid True.intro; clear g9 r9 b9 o9))
    go_ret2
    exact WroteR.yes O16.out G16.out

set_option maxRecDepth 10000 in
set_option maxHeartbeats 4000000 in
theorem refWriteG_any (s : ByteArray) (ls k : List UInt8) (no : Nat) (st en fl : Int) (w : World) (hds : s.data.toList = ls) (hk : k.length = 16) (hls : ls.length ≤ 10000) (hno : no < 18446744073709551616) :
    Calls Tryd.prog 26 #[.agg (gcells s k (no : Int) st en fl).toArray] w fun e w' => WroteR w (gOk ls st en fl) (bytesF (gFields ls k no st.toNat en.toNat fl.toNat)) e w' := by
  have HDs := Lib.hid hds
  have HLs := Lib.hid hls
  have HSZs := Lib.hid (show s.size ≤ 70368744177664 by have : s.size = s.data.toList.length := rfl; rw [this, hds]; omega)
  have HK := Lib.hid hk
  have HNO := Lib.hid hno
  have B0 := Lib.hid (CB.new w 50 (gcells s k (no : Int) st en fl))
  have G0 := Lib.hid (grown_alloc w (.cells (gcells s k (no : Int) st en fl).toArray 50) none)
  cases hok : gOk ls st en fl with
  | false =>
    have HOK := Lib.hid hok
    clear hds hls hk hno hok
    go_enter Tryd.func26, Tryd.ntmps26
    go_wp2_with (first
      | refine wpList_loadC (off := 0) (p := gcells s k (no : Int) st en fl) aggGr rfl (.tmp 1) rfl B0.out (by rw [List.drop_zero]; exact List.take_of_length_le (by rw [gcells_length _ _ _ _ _ _ HK.out]; exact Nat.le_refl _)) (by rw [gcells_length _ _ _ _ _ _ HK.out]; omega) (by first | rfl | go_simp) ?_
      | (go_at_call 72; refine (refRightG_any s ls k (no : Int) st en fl _ HDs.out HK.out HLs.out).mono ?_; rintro e w1 ⟨rfl, g1⟩; rw [HOK.out]; have G1 := Lib.hid (grown_trans' G0.out g1); have B1 := Lib.hid (B0.out.kept g1); clear g1))
    go_ret2
    exact WroteR.no ⟨_, _, rfl, Nat.le_refl _, Nat.zero_le _, .inr ⟨_, rfl, fun k u hu => by simp at hu⟩⟩ (grown_trans' G1.out (grown_alloc _ _ _))
  | true =>
  have HOK := Lib.hid hok
  obtain ⟨xs, rfl⟩ : ∃ t : Nat, st = t := ⟨st.toNat, by have := gOk_int hok; omega⟩
  obtain ⟨xe, rfl⟩ : ∃ t : Nat, en = t := ⟨en.toNat, by have := gOk_int hok; omega⟩
  obtain ⟨xf, rfl⟩ : ∃ t : Nat, fl = t := ⟨fl.toNat, by have := gOk_int hok; omega⟩
  have HTst := Lib.hid (show xs ≤ 1099511627776 by have := gOk_int hok; omega)
  have HWst := Lib.hid (wrap_nat xs (by have := gOk_int hok; omega))
  have HTen := Lib.hid (show xe ≤ 1099511627776 by have := gOk_int hok; omega)
  have HWen := Lib.hid (wrap_nat xe (by have := gOk_int hok; omega))
  have HTfl := Lib.hid (show xf ≤ 1099511627776 by have := gOk_int hok; omega)
  have HWfl := Lib.hid (wrap_nat xf (by have := gOk_int hok; omega))
  obtain ⟨F0, hF0⟩ : ∃ F, fieldB (21, ls) = F := ⟨_, rfl⟩
  have HF0 := Lib.hid hF0
  obtain ⟨F1, hF1⟩ : ∃ F, fieldB (22, k) = F := ⟨_, rfl⟩
  have HF1 := Lib.hid hF1
  obtain ⟨F2, hF2⟩ : ∃ F, fieldB (23, numB no) = F := ⟨_, rfl⟩
  have HF2 := Lib.hid hF2
  obtain ⟨F3, hF3⟩ : ∃ F, fieldB (24, numB xs) = F := ⟨_, rfl⟩
  have HF3 := Lib.hid hF3
  obtain ⟨F4, hF4⟩ : ∃ F, fieldB (25, numB xe) = F := ⟨_, rfl⟩
  have HF4 := Lib.hid hF4
  obtain ⟨F5, hF5⟩ : ∃ F, fieldB (26, numB xf) = F := ⟨_, rfl⟩
  have HF5 := Lib.hid hF5
  have HE := Lib.hid (show ((((F0 ++ F1) ++ F2) ++ F3) ++ F4) ++ F5 = bytesF (gFields ls k no ((xs : Int)).toNat ((xe : Int)).toNat ((xf : Int)).toNat) by rw [← hF0, ← hF1, ← hF2, ← hF3, ← hF4, ← hF5]; simp [bytesF, gFields])
  have L0 := Lib.hid (show F0.length ≤ 20000 by rw [← hF0, fieldB_length]; simp only; omega)
  have L1 := Lib.hid (show F1.length ≤ 20000 by rw [← hF1, fieldB_length]; simp only; omega)
  have L2 := Lib.hid (show F2.length ≤ 20000 by rw [← hF2, fieldB_length]; have := numB_length no; simp only; omega)
  have L3 := Lib.hid (show F3.length ≤ 20000 by rw [← hF3, fieldB_length]; have := numB_length xs; simp only; omega)
  have L4 := Lib.hid (show F4.length ≤ 20000 by rw [← hF4, fieldB_length]; have := numB_length xe; simp only; omega)
  have L5 := Lib.hid (show F5.length ≤ 20000 by rw [← hF5, fieldB_length]; have := numB_length xf; simp only; omega)
  obtain ⟨zs, hzs⟩ : ∃ n, ls.length = n := ⟨_, rfl⟩
  have HNs := Lib.hid hzs
  obtain ⟨CS, hcs⟩ : ∃ C, C = gcells s k (no : Int) (xs : Int) (xe : Int) (xf : Int) := ⟨_, rfl⟩
  have HQs := Lib.hid (show CS[0]? = some (.string s) by rw [hcs]; exact gcells_s _ _ _ _ _ _ hk)
  have HQno := Lib.hid (show CS[17]? = some (.int .u64 (no : Int)) by rw [hcs]; exact gcells_no _ _ _ _ _ _ hk)
  have HQst := Lib.hid (show CS[18]? = some (.int .i64 (xs : Int)) by rw [hcs]; exact gcells_st _ _ _ _ _ _ hk)
  have HQen := Lib.hid (show CS[19]? = some (.int .i64 (xe : Int)) by rw [hcs]; exact gcells_en _ _ _ _ _ _ hk)
  have HQfl := Lib.hid (show CS[20]? = some (.int .i64 (xf : Int)) by rw [hcs]; exact gcells_fl _ _ _ _ _ _ hk)
  have HQk := Lib.hid (show (CS.drop 1).take k.length = bcells k by rw [hcs]; exact gcells_key _ _ _ _ _ _)
  rw [← HE.out]
  clear hds hls hk hno hok hF0 hF1 hF2 hF3 hF4 hF5 hzs
  go_enter Tryd.func26, Tryd.ntmps26
  go_wp2_with (first
    | refine wpList_loadC (off := 0) (p := gcells s k (no : Int) (xs : Int) (xe : Int) (xf : Int)) aggGr rfl (.tmp 1) rfl B0.out (by rw [List.drop_zero]; exact List.take_of_length_le (by rw [gcells_length _ _ _ _ _ _ HK.out]; exact Nat.le_refl _)) (by rw [gcells_length _ _ _ _ _ _ HK.out]; omega) (by first | rfl | go_simp) ?_
    | (go_at_call 72; refine (refRightG_any s ls k (no : Int) (xs : Int) (xe : Int) (xf : Int) _ HDs.out HK.out HLs.out).mono ?_; rintro e w1 ⟨rfl, g1⟩; rw [HOK.out]; have G1 := Lib.hid (grown_trans' G0.out g1); have B1 := Lib.hid (B0.out.kept g1); clear g1))
  have B1 := Lib.hid (show CB w1 w.heap.size 50 CS by rw [hcs]; exact B1.out)
  clear hcs B0
  go_cut [4] from 5 (fun s4 wx => OwnG wx (w.heap.size + 1) 5 s4 (F0 ++ F1) ∧ CB wx w.heap.size 50 CS ∧ w.grownBy wx none)
  case first =>
    refine heldb_begin (w.heap.size + 1) (by kernel_rfl) (fun hS => ?_)
    have B4 := Lib.hid (show CB w1.drew w.heap.size 50 CS from B1.out)
    have G4 := Lib.hid (grown_drew G1.out)
    have S4 := Lib.hid (show w.heap.size + 1 ≤ w1.drew.heap.size from B1.out.lt)
    have T4 := Lib.hid (World.grownBy.refl w1.drew none)
    generalize w1.drew = wd at *
    have Q0 := Lib.hid (B4.out.at_ HQs.out)
    refine heldb_take (i := 0) (d := some 9) (v := ?v0) (by assumption) rfl rfl (by kernel_rfl) (fun _ _ _ h => h) ?y0 ?_; case y0 => (refine Or.inl ⟨rfl, fun wx hS => ?_⟩; go_simp; try with_reducible rfl)
    try simp only [Act.put, List.setIfInBounds_toArray, List.set_cons_zero, List.set_cons_succ]
    refine heldb_take (i := 1) (d := some 10) (v := ?v1) (by assumption) rfl rfl (by kernel_rfl) (fun _ _ _ h => h) ?y1 ?_; case y1 => (refine Or.inl ⟨rfl, fun wx hS => ?_⟩; have q := (hS.cell (p := ⟨w.heap.size, 0, none⟩) (Nat.lt_succ_self _)).trans Q0.out; go_simp; try with_reducible rfl)
    try simp only [Act.put, List.setIfInBounds_toArray, List.set_cons_zero, List.set_cons_succ]
    refine heldb_take (i := 4) (d := some 13) (v := ?v4) (by assumption) rfl rfl (by kernel_rfl) (fun _ _ _ h => h) ?y4 ?_; case y4 => (refine Or.inl ⟨rfl, fun wx hS => ?_⟩; go_simp; try with_reducible rfl)
    try simp only [Act.put, List.setIfInBounds_toArray, List.set_cons_zero, List.set_cons_succ]
    refine heldb_take (i := 5) (d := some 14) (v := ?v5) (by assumption) rfl rfl (by kernel_rfl) (fun _ _ _ h => h) ?y5 ?_; case y5 => (refine Or.inl ⟨rfl, fun wx hS => ?_⟩; go_simp; try with_reducible rfl)
    try simp only [Act.put, List.setIfInBounds_toArray, List.set_cons_zero, List.set_cons_succ]
    refine heldb_one (i := 2) rfl (by kernel_rfl) rfl (fun K hK => ?_)
    refine wp_convG (d := some 11) byteT Tryd.underlying9 rfl (.tmp 10) rfl s HSZs.out rfl ?_
    intro v5 w5 o5 g5 _
    rw [HDs.out] at o5
    obtain ⟨A5, c5, rfl, r5, -⟩ := o5.shape
    rw [HNs.out]
    have B5 := Lib.hid (B4.out.kept g5)
    have G5 := Lib.hid (grown_trans' G4.out g5)
    have T5 := Lib.hid (grown_trans' T4.out g5)
    have S5 := Lib.hid (Nat.le_trans S4.out g5.size)
    have Ran5 := Lib.hid r5
    have hb := below_row (B := w.heap.size + 1) T5.out S4.out (fun _ e => by cases e)
    refine hK.out _ _ hb (fun hS => ?_)
    clear hb hK K g5 o5 r5
    try simp only [Act.put, List.setIfInBounds_toArray, List.set_cons_zero, List.set_cons_succ]
    refine heldb_one (i := 3) rfl (by kernel_rfl) rfl (fun K hK => ?_)
    go_simp
    refine (fieldN_any 21 A5 ls c5 zs _ (by omega) (by omega) (by have := HLs.out; have := HNs.out; omega) HNs.out Ran5.out).mono ?_
    rintro e w6 ⟨v6, rfl, o6, b6⟩
    rw [HF0.out] at o6
    have g6 := none_of_below b6 (Nat.le_refl _)
    have B6 := Lib.hid (B5.out.kept g6)
    have G6 := Lib.hid (grown_trans' G5.out g6)
    have T6 := Lib.hid (grown_trans' T5.out g6)
    have S6 := Lib.hid (Nat.le_trans S5.out g6.size)
    have On6 := Lib.hid (o6.toG.base_ S5.out)
    have hb := below_row (B := w.heap.size + 1) T6.out S4.out (fun _ e => by cases e)
    refine hK.out _ _ hb (fun hS => ?_)
    clear hb hK K g6 o6 b6
    try simp only [Act.put, List.setIfInBounds_toArray, List.set_cons_zero, List.set_cons_succ]
    refine heldb_one (i := 6) rfl (by kernel_rfl) rfl (fun K hK => ?_)
    go_simp
    have rk7 := RB.inside B6.out HQk.out (by rw [HK.out]; simp [maxLen])
    rw [HK.out] at rk7
    refine (fieldN_any 22 _ k _ 16 _ (by omega) (by omega) (by omega) HK.out rk7).mono ?_
    rintro e w7 ⟨v7, rfl, o7, b7⟩
    rw [HF1.out] at o7
    have g7 := none_of_below b7 (Nat.le_refl _)
    obtain ⟨A7, c7, rfl, r7, -⟩ := o7.shape
    have B7 := Lib.hid (B6.out.kept g7)
    have G7 := Lib.hid (grown_trans' G6.out g7)
    have T7 := Lib.hid (grown_trans' T6.out g7)
    have S7 := Lib.hid (Nat.le_trans S6.out g7.size)
    have O7 := Lib.hid (On6.out.kept g7)
    have Rbn7 := Lib.hid r7
    have hb := below_row (B := w.heap.size + 1) T7.out S4.out (fun _ e => by cases e)
    refine hK.out _ _ hb (fun hS => ?_)
    clear hb hK K g7 o7 r7 b7
    try simp only [Act.put, List.setIfInBounds_toArray, List.set_cons_zero, List.set_cons_succ]
    refine heldb_one (i := 7) rfl (by kernel_rfl) rfl (fun K hK => ?_)
    refine wp_appG (d := some 16) byteT rfl (.tmp 12) (.tmp 15) rfl O7.out Rbn7.out rfl rfl (by have := L0.out; have := L1.out; omega) S7.out ?_
    intro v8 w8 o8 g8 _
    have hne := fun g hg => (O7.out.lt_ g hg).1
    have O8 := Lib.hid o8
    have B8 := Lib.hid (B7.out.row g8 (fun g hg => by have := hne g hg; omega))
    have G8 := Lib.hid (grownR G7.out g8 (fun g hg => by have := hne g hg; omega))
    have hb := Below.trans (below_row (B := w.heap.size + 1) T7.out S4.out (fun _ e => by cases e)) (below_row g8 S7.out (fun g hg => by have := hne g hg; omega))
    refine hK.out _ _ hb (fun hS => ?_)
    clear hb hK K o8 g8 hne
    try simp only [Act.put, List.setIfInBounds_toArray, List.set_cons_zero, List.set_cons_succ]
    refine heldb_take (i := 8) (d := some 4) (v := v8) (by assumption) rfl rfl (by kernel_rfl) (fun _ _ _ h => h) ?y8 ?_; case y8 => (refine Or.inl ⟨rfl, fun wx hS => ?_⟩; go_simp; try with_reducible rfl)
    try simp only [Act.put, List.setIfInBounds_toArray, List.set_cons_zero, List.set_cons_succ]
    refine held_end (by kernel_rfl) ?_ _
    go_wp2
    go_meet
    case rel => exact ⟨O8.out, B8.out, G8.out⟩
  case rest =>
    obtain ⟨O8, B8, G8⟩ := hcut
    have hsz := B8.lt
    have O8 := Lib.hid O8
    have B8 := Lib.hid B8
    have G8 := Lib.hid G8
    have S8 := Lib.hid (show w.heap.size + 1 ≤ wc.heap.size from hsz)
    clear hsz
    have qno := B8.out.at_ HQno.out
    have qst := B8.out.at_ HQst.out
    have qen := B8.out.at_ HQen.out
    have qfl := B8.out.at_ HQfl.out
    have TK8 := Lib.hid True.intro
    have hws := HWst.out
    have hwe := HWen.out
    have hwf := HWfl.out
    go_wp2_with (first
      | (at_builtin; have hx := TK15; clear hx; refine wpList_appG byteT rfl (.tmp 34) (.tmp 38) rfl O15.out R15.out rfl rfl (by simp only [List.length_append]; have := L0.out; have := L1.out; have := L2.out; have := L3.out; have := L4.out; have := L5.out; omega) S15.out ?_; intro v16 w16 o16 g16 _; have hne := fun g hg => (O15.out.lt_ g hg).1; have O16 := Lib.hid o16.isB; have G16 := Lib.hid (grownR G15.out g16 (fun g hg => by have := hne g hg; omega)); clear o16 g16 hne)
      | (go_at_call 58; have hx := TK14; clear hx; refine (refNumF_any 26 xf _ (by omega) (by omega) (by have := HTfl.out; omega)).mono ?_; rintro e w15 ⟨v15, rfl, o15, g15⟩; rw [HF5.out] at o15; obtain ⟨A15, c15, rfl, r15⟩ := o15; have R15 := Lib.hid r15; have O15 := Lib.hid (O14.out.kept g15); have B15 := Lib.hid (B14.out.kept g15); have G15 := Lib.hid (grown_trans' G14.out g15); have S15 := Lib.hid (Nat.le_trans S14.out g15.size); have TK15 := Lib.hid True.intro; clear g15 r15)
      | (at_builtin; have hx := TK13; clear hx; refine wpList_appG byteT rfl (.tmp 28) (.tmp 32) rfl O13.out R13.out rfl rfl (by simp only [List.length_append]; have := L0.out; have := L1.out; have := L2.out; have := L3.out; have := L4.out; omega) S13.out ?_; intro v14 w14 o14 g14 _; have hne := fun g hg => (O13.out.lt_ g hg).1; have O14 := Lib.hid o14; have B14 := Lib.hid (B13.out.row g14 (fun g hg => by have := hne g hg; omega)); have G14 := Lib.hid (grownR G13.out g14 (fun g hg => by have := hne g hg; omega)); have S14 := Lib.hid (Nat.le_trans S13.out g14.size); clear qno qst qen qfl; have qno := B14.out.at_ HQno.out; have qst := B14.out.at_ HQst.out; have qen := B14.out.at_ HQen.out; have qfl := B14.out.at_ HQfl.out; have TK14 := Lib.hid True.intro; clear o14 g14 hne)
      | (go_at_call 58; have hx := TK12; clear hx; refine (refNumF_any 25 xe _ (by omega) (by omega) (by have := HTen.out; omega)).mono ?_; rintro e w13 ⟨v13, rfl, o13, g13⟩; rw [HF4.out] at o13; obtain ⟨A13, c13, rfl, r13⟩ := o13; have R13 := Lib.hid r13; have O13 := Lib.hid (O12.out.kept g13); have B13 := Lib.hid (B12.out.kept g13); have G13 := Lib.hid (grown_trans' G12.out g13); have S13 := Lib.hid (Nat.le_trans S12.out g13.size); have TK13 := Lib.hid True.intro; clear g13 r13)
      | (at_builtin; have hx := TK11; clear hx; refine wpList_appG byteT rfl (.tmp 22) (.tmp 26) rfl O11.out R11.out rfl rfl (by simp only [List.length_append]; have := L0.out; have := L1.out; have := L2.out; have := L3.out; omega) S11.out ?_; intro v12 w12 o12 g12 _; have hne := fun g hg => (O11.out.lt_ g hg).1; have O12 := Lib.hid o12; have B12 := Lib.hid (B11.out.row g12 (fun g hg => by have := hne g hg; omega)); have G12 := Lib.hid (grownR G11.out g12 (fun g hg => by have := hne g hg; omega)); have S12 := Lib.hid (Nat.le_trans S11.out g12.size); clear qno qst qen qfl; have qno := B12.out.at_ HQno.out; have qst := B12.out.at_ HQst.out; have qen := B12.out.at_ HQen.out; have qfl := B12.out.at_ HQfl.out; have TK12 := Lib.hid True.intro; clear o12 g12 hne)
      | (go_at_call 58; have hx := TK10; clear hx; refine (refNumF_any 24 xs _ (by omega) (by omega) (by have := HTst.out; omega)).mono ?_; rintro e w11 ⟨v11, rfl, o11, g11⟩; rw [HF3.out] at o11; obtain ⟨A11, c11, rfl, r11⟩ := o11; have R11 := Lib.hid r11; have O11 := Lib.hid (O10.out.kept g11); have B11 := Lib.hid (B10.out.kept g11); have G11 := Lib.hid (grown_trans' G10.out g11); have S11 := Lib.hid (Nat.le_trans S10.out g11.size); have TK11 := Lib.hid True.intro; clear g11 r11)
      | (at_builtin; have hx := TK9; clear hx; refine wpList_appG byteT rfl (.tmp 17) (.tmp 20) rfl O9.out R9.out rfl rfl (by simp only [List.length_append]; have := L0.out; have := L1.out; have := L2.out; omega) S9.out ?_; intro v10 w10 o10 g10 _; have hne := fun g hg => (O9.out.lt_ g hg).1; have O10 := Lib.hid o10; have B10 := Lib.hid (B9.out.row g10 (fun g hg => by have := hne g hg; omega)); have G10 := Lib.hid (grownR G9.out g10 (fun g hg => by have := hne g hg; omega)); have S10 := Lib.hid (Nat.le_trans S9.out g10.size); clear qno qst qen qfl; have qno := B10.out.at_ HQno.out; have qst := B10.out.at_ HQst.out; have qen := B10.out.at_ HQen.out; have qfl := B10.out.at_ HQfl.out; have TK10 := Lib.hid True.intro; clear o10 g10 hne)
      | (go_at_call 58; have hx := TK8; clear hx; refine (refNumF_any 23 no _ (by omega) (by omega) HNO.out).mono ?_; rintro e w9 ⟨v9, rfl, o9, g9⟩; rw [HF2.out] at o9; obtain ⟨A9, c9, rfl, r9⟩ := o9; have R9 := Lib.hid r9; have O9 := Lib.hid (O8.out.kept g9); have B9 := Lib.hid (B8.out.kept g9); have G9 := Lib.hid (grown_trans' G8.out g9); have S9 := Lib.hid (Nat.le_trans S8.out g9.size); have TK9 := Lib.hid True.intro; clear g9 r9))
    go_ret2
    exact WroteR.yes O16.out G16.out

end Go.Proofs.YtnaoagiphehcaaaDoor
