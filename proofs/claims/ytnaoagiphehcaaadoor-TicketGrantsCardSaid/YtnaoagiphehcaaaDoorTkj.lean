/- The walk of the document's WriteAuth. -/
import Derived.Test.YtnaoagiphehcaaaDoorTkd
namespace Go.Proofs.YtnaoagiphehcaaaDoor
open Go.RowKit

/-- What the document's ones that write answer. -/
def WroteR (w : World) (ok : Bool) (b : List UInt8) (e : Ending) (w' : World) : Prop :=
  w.grownBy w' none ∧ if ok = true then ∃ v, e = .returned (.tuple #[v, .int .i64 0]) ∧ IsB w' v b else ∃ v, e = .returned (.tuple #[v, .int .i64 1]) ∧ IsB w' v []
theorem WroteR.no {w w' : World} {v : Value} {b : List UInt8} (h : IsB w' v []) (hg : w.grownBy w' none) : WroteR w false b (.returned (.tuple #[v, .int .i64 1])) w' := ⟨hg, by rw [if_neg (by simp)]; exact ⟨v, rfl, h⟩⟩
theorem WroteR.yes {w w' : World} {v : Value} {b : List UInt8} (h : IsB w' v b) (hg : w.grownBy w' none) : WroteR w true b (.returned (.tuple #[v, .int .i64 0])) w' := ⟨hg, by rw [if_pos rfl]; exact ⟨v, rfl, h⟩⟩
theorem fieldN_any (t : Int) (V : Option Addr) (v : List UInt8) (c n : Nat) (w : World) (h1 : 1 ≤ t) (h2 : t ≤ 255) (h3 : n ≤ 65535) (hn : v.length = n) (h : RB w w.heap.size V v c) :
    Calls Tryd.prog 57 #[.int .i64 t, .slice V n c] w fun e w' => ∃ u, e = .returned u ∧ OwnB w' w.heap.size 5 u (fieldB (t, v)) ∧ Below w.heap.size w w' := by
  subst hn
  exact field_any t V v c w h1 h2 h3 h

set_option maxRecDepth 10000 in
set_option maxHeartbeats 1000000 in
theorem refWriteA_any (c : ByteArray) (lc k : List UInt8) (ti : Int) (no : Nat) (w : World) (hdc : c.data.toList = lc) (hk : k.length = 16) (hl : lc.length ≤ 10000) (hno : no < 18446744073709551616) :
    Calls Tryd.prog 22 #[.agg (acells c k ti no).toArray] w fun e w' => WroteR w (aOk lc ti) (bytesF (aFields lc k ti.toNat no)) e w' := by
  have HD := Lib.hid hdc
  have HK := Lib.hid hk
  have HL := Lib.hid hl
  have HNO := Lib.hid hno
  have HSZ := Lib.hid (show c.size ≤ 70368744177664 by have : c.size = c.data.toList.length := rfl; rw [this, hdc]; omega)
  have B0 := Lib.hid (CB.new w 41 (acells c k ti no))
  have G0 := Lib.hid (grown_alloc w (.cells (acells c k ti no).toArray 41) none)
  cases hok : aOk lc ti with
  | false =>
    have HOK := Lib.hid hok
    clear hdc hk hl hno hok
    go_enter Tryd.func22, Tryd.ntmps22
    go_wp2_with (first
      | refine wpList_loadC (off := 0) (p := acells c k ti no) aggAr rfl (.tmp 1) rfl B0.out (by rw [List.drop_zero]; exact List.take_of_length_le (by rw [acells_length _ _ _ _ HK.out]; exact Nat.le_refl _)) (by rw [acells_length _ _ _ _ HK.out]; omega) (by first | rfl | go_simp) ?_
      | (go_at_call 68; refine (refRightA_any c lc k ti no _ HD.out HK.out HL.out).mono ?_; rintro e w1 ⟨rfl, g1⟩; rw [HOK.out]; have G1 := Lib.hid (grown_trans' G0.out g1); clear g1))
    go_ret2
    exact WroteR.no ⟨_, _, rfl, Nat.le_refl _, Nat.zero_le _, .inr ⟨_, rfl, fun k u hu => by simp at hu⟩⟩ (grown_trans' G1.out (grown_alloc _ _ _))
  | true =>
  have HOK := Lib.hid hok
  obtain ⟨t, rfl⟩ : ∃ t : Nat, ti = t := ⟨ti.toNat, by have := aOk_int hok; omega⟩
  have HT := Lib.hid (show t ≤ 1099511627776 by have := aOk_int hok; omega)
  have HWR := Lib.hid (wrap_nat t (by have := aOk_int hok; omega))
  obtain ⟨F1, hF1⟩ : ∃ F, fieldB (11, lc) = F := ⟨_, rfl⟩
  obtain ⟨F2, hF2⟩ : ∃ F, fieldB (12, numB t) = F := ⟨_, rfl⟩
  obtain ⟨F3, hF3⟩ : ∃ F, fieldB (13, numB no) = F := ⟨_, rfl⟩
  obtain ⟨F4, hF4⟩ : ∃ F, fieldB (14, k) = F := ⟨_, rfl⟩
  have HE := Lib.hid (show ((F1 ++ F2) ++ F3) ++ F4 = bytesF (aFields lc k ((t : Int)).toNat no) by rw [← hF1, ← hF2, ← hF3, ← hF4]; simp [bytesF, aFields])
  have L1 := Lib.hid (show F1.length ≤ 20000 by rw [← hF1, fieldB_length]; simp only; omega)
  have L2 := Lib.hid (show F2.length ≤ 20 by rw [← hF2, fieldB_length]; have := numB_length t; simp only; omega)
  have L3 := Lib.hid (show F3.length ≤ 20 by rw [← hF3, fieldB_length]; have := numB_length no; simp only; omega)
  have L4 := Lib.hid (show F4.length ≤ 20 by rw [← hF4, fieldB_length]; simp only; omega)
  have HF1 := Lib.hid hF1
  have HF2 := Lib.hid hF2
  have HF3 := Lib.hid hF3
  have HF4 := Lib.hid hF4
  rw [← HE.out]
  clear hdc hk hl hno hok hF1 hF2 hF3 hF4
  go_enter Tryd.func22, Tryd.ntmps22
  go_wp2_with (first
    | refine wpList_loadC (off := 0) (p := acells c k t no) aggAr rfl (.tmp 1) rfl B0.out (by rw [List.drop_zero]; exact List.take_of_length_le (by rw [acells_length _ _ _ _ HK.out]; exact Nat.le_refl _)) (by rw [acells_length _ _ _ _ HK.out]; omega) (by first | rfl | go_simp) ?_
    | (go_at_call 68; refine (refRightA_any c lc k t no _ HD.out HK.out HL.out).mono ?_; rintro e w1 ⟨rfl, g1⟩; rw [HOK.out]; have G1 := Lib.hid (grown_trans' G0.out g1); have B1 := Lib.hid (B0.out.kept g1); clear g1))
  refine heldb_begin (w.heap.size + 1) (by kernel_rfl) (fun hS => ?_)
  have B4 := Lib.hid (show CB w1.drew w.heap.size 41 (acells c k t no) from B1.out)
  have G4 := Lib.hid (grown_drew G1.out)
  have S4 := Lib.hid (show w.heap.size + 1 ≤ w1.drew.heap.size from B1.out.lt)
  have T4 := Lib.hid (World.grownBy.refl w1.drew none)
  generalize w1.drew = wd at *
  have Q0 := Lib.hid (B4.out.at_ (acells_c c k t no HK.out))
  have Q1 := Lib.hid (B4.out.at_ (acells_ti c k t no HK.out))
  refine heldb_take (i := 0) (d := some 9) (v := ?v0) (by assumption) rfl rfl (by kernel_rfl) (fun _ _ _ h => h) ?y0 ?_; case y0 => (refine Or.inl ⟨rfl, fun wx hS => ?_⟩; go_simp; try with_reducible rfl)
  try simp only [Act.put, List.setIfInBounds_toArray, List.set_cons_zero, List.set_cons_succ]
  refine heldb_take (i := 1) (d := some 10) (v := ?v1) (by assumption) rfl rfl (by kernel_rfl) (fun _ _ _ h => h) ?y1 ?_; case y1 => (refine Or.inl ⟨rfl, fun wx hS => ?_⟩; have q := (hS.cell (p := ⟨w.heap.size, 0, none⟩) (Nat.lt_succ_self _)).trans Q0.out; go_simp; try with_reducible rfl)
  try simp only [Act.put, List.setIfInBounds_toArray, List.set_cons_zero, List.set_cons_succ]
  refine heldb_take (i := 4) (d := some 13) (v := ?v4) (by assumption) rfl rfl (by kernel_rfl) (fun _ _ _ h => h) ?y4 ?_; case y4 => (refine Or.inl ⟨rfl, fun wx hS => ?_⟩; go_simp; try with_reducible rfl)
  try simp only [Act.put, List.setIfInBounds_toArray, List.set_cons_zero, List.set_cons_succ]
  refine heldb_take (i := 5) (d := some 14) (v := ?v5) (by assumption) rfl rfl (by kernel_rfl) (fun _ _ _ h => h) ?y5 ?_; case y5 => (refine Or.inl ⟨rfl, fun wx hS => ?_⟩; have q := (hS.cell (p := ⟨w.heap.size, 1, none⟩) (Nat.lt_succ_self _)).trans Q1.out; go_simp; try with_reducible rfl)
  try simp only [Act.put, List.setIfInBounds_toArray, List.set_cons_zero, List.set_cons_succ]
  refine heldb_take (i := 6) (d := some 15) (v := .int .u64 (t : Int)) (by assumption) rfl rfl (by kernel_rfl) (fun _ _ _ h => h) ?y6 ?_; case y6 => (refine Or.inl ⟨rfl, fun wx hS => ?_⟩; go_simp; rw [HWR.out]; try with_reducible rfl)
  try simp only [Act.put, List.setIfInBounds_toArray, List.set_cons_zero, List.set_cons_succ]
  refine heldb_one (i := 2) rfl (by kernel_rfl) rfl (fun K hK => ?_)
  refine wp_convG (d := some 11) byteT Tryd.underlying9 rfl (.tmp 10) rfl c HSZ.out rfl ?_
  intro v5 w5 o5 g5 _
  rw [HD.out] at o5
  obtain ⟨A5, c5, rfl, r5, -⟩ := o5.shape
  obtain ⟨n1, hn1⟩ : ∃ n, lc.length = n := ⟨_, rfl⟩
  rw [hn1]
  have HN1 := Lib.hid hn1
  have R5 := Lib.hid r5
  have B5 := Lib.hid (B4.out.kept g5)
  have G5 := Lib.hid (grown_trans' G4.out g5)
  have T5 := Lib.hid (grown_trans' T4.out g5)
  have S5 := Lib.hid (Nat.le_trans S4.out g5.size)
  have hb := below_row (B := w.heap.size + 1) T5.out S4.out (fun _ e => by cases e)
  refine hK.out _ _ hb (fun hS => ?_)
  clear hb hK K o5 g5 r5 hn1
  try simp only [Act.put, List.setIfInBounds_toArray, List.set_cons_zero, List.set_cons_succ]
  refine heldb_one (i := 3) rfl (by kernel_rfl) rfl (fun K hK => ?_)
  go_simp
  refine (fieldN_any 11 A5 lc c5 n1 _ (by omega) (by omega) (by have := HL.out; have := HN1.out; omega) HN1.out R5.out).mono ?_
  rintro e w6 ⟨v6, rfl, o6, b6⟩
  rw [HF1.out] at o6
  have g6 := none_of_below b6 (Nat.le_refl _)
  have O6 := Lib.hid o6.toG
  have B6 := Lib.hid (B5.out.kept g6)
  have G6 := Lib.hid (grown_trans' G5.out g6)
  have T6 := Lib.hid (grown_trans' T5.out g6)
  have S6 := Lib.hid (Nat.le_trans S5.out g6.size)
  have hb := below_row (B := w.heap.size + 1) T6.out S4.out (fun _ e => by cases e)
  refine hK.out _ _ hb (fun hS => ?_)
  clear hb hK K o6 g6 b6
  try simp only [Act.put, List.setIfInBounds_toArray, List.set_cons_zero, List.set_cons_succ]
  refine heldb_one (i := 7) rfl (by kernel_rfl) rfl (fun K hK => ?_)
  go_simp
  refine (refNumF_any 12 t _ (by omega) (by omega) (by have := HT.out; omega)).mono ?_
  rintro e w7 ⟨v7, rfl, o7, g7⟩
  rw [HF2.out] at o7
  obtain ⟨A7, c7, rfl, r7⟩ := o7
  have R7 := Lib.hid r7
  have O7 := Lib.hid ((O6.out.base_ S5.out).kept g7)
  have B7 := Lib.hid (B6.out.kept g7)
  have G7 := Lib.hid (grown_trans' G6.out g7)
  have T7 := Lib.hid (grown_trans' T6.out g7)
  have S7 := Lib.hid (Nat.le_trans S6.out g7.size)
  have hb := below_row (B := w.heap.size + 1) T7.out S4.out (fun _ e => by cases e)
  refine hK.out _ _ hb (fun hS => ?_)
  clear hb hK K g7 r7
  try simp only [Act.put, List.setIfInBounds_toArray, List.set_cons_zero, List.set_cons_succ]
  refine heldb_one (i := 8) rfl (by kernel_rfl) rfl (fun K hK => ?_)
  refine wp_appG (d := some 17) byteT rfl (.tmp 12) (.tmp 16) rfl O7.out R7.out rfl rfl (by have := L1.out; have := L2.out; omega) S7.out ?_
  intro v8 w8 o8 g8 _
  have hne := fun g hg => (O7.out.lt_ g hg).1
  have O8 := Lib.hid o8
  have B8 := Lib.hid (B7.out.row g8 (fun g hg => by have := hne g hg; omega))
  have G8 := Lib.hid (grownR G7.out g8 (fun g hg => by have := hne g hg; omega))
  have S8 := Lib.hid (Nat.le_trans S7.out g8.size)
  have hb := Below.trans (below_row (B := w.heap.size + 1) T7.out S4.out (fun _ e => by cases e)) (below_row g8 S7.out (fun g hg => by have := hne g hg; omega))
  refine hK.out _ _ hb (fun hS => ?_)
  clear hb hK K o8 g8 hne
  try simp only [Act.put, List.setIfInBounds_toArray, List.set_cons_zero, List.set_cons_succ]
  refine heldb_take (i := 9) (d := some 4) (v := v8) (by assumption) rfl rfl (by kernel_rfl) (fun _ _ _ h => h) ?y9 ?_; case y9 => (refine Or.inl ⟨rfl, fun wx hS => ?_⟩; go_simp; try with_reducible rfl)
  try simp only [Act.put, List.setIfInBounds_toArray, List.set_cons_zero, List.set_cons_succ]
  refine held_end (by kernel_rfl) ?_ _
  have q2 := B8.out.at_ (acells_no c k t no HK.out)
  go_wp2_with (first
    | (go_at_call 58; refine (refNumF_any 13 no _ (by omega) (by omega) HNO.out).mono ?_; rintro e w9 ⟨v9, rfl, o9, g9⟩; rw [HF3.out] at o9; obtain ⟨A9, c9, rfl, r9⟩ := o9; have R9 := Lib.hid r9; have O9 := Lib.hid (O8.out.kept g9); have B9 := Lib.hid (B8.out.kept g9); have G9 := Lib.hid (grown_trans' G8.out g9); have S9 := Lib.hid (Nat.le_trans S8.out g9.size); clear g9 r9)
    | (at_builtin; refine wpList_appG byteT rfl (.tmp 18) (.tmp 21) rfl O9.out R9.out rfl rfl (by rw [List.length_append]; have := L1.out; have := L2.out; have := L3.out; omega) S9.out ?_; intro v10 w10 o10 g10 _; have hne := fun g hg => (O9.out.lt_ g hg).1; have O10 := Lib.hid o10; have B10 := Lib.hid (B9.out.row g10 (fun g hg => by have := hne g hg; omega)); have G10 := Lib.hid (grownR G9.out g10 (fun g hg => by have := hne g hg; omega)); have S10 := Lib.hid (Nat.le_trans S9.out g10.size); have RK := Lib.hid (RB.inside B10.out (acells_key c k t no) (by rw [HK.out]; simp [maxLen])); clear o10 g10 hne)
    | (go_at_call 57; refine (fieldN_any 14 _ k _ _ _ (by omega) (by omega) (by omega) HK.out (by have := RK.out; rw [HK.out] at this; exact this)).mono ?_; rintro e w11 ⟨v11, rfl, o11, b11⟩; rw [HF4.out] at o11; have g11 := none_of_below b11 (Nat.le_refl _); obtain ⟨A11, c11, rfl, r11, -⟩ := o11.shape; have R11 := Lib.hid r11; have O11 := Lib.hid (O10.out.kept g11); have G11 := Lib.hid (grown_trans' G10.out g11); have S11 := Lib.hid (Nat.le_trans S10.out g11.size); clear g11 b11 o11 r11)
    | (at_builtin; refine wpList_appG byteT rfl (.tmp 23) (.tmp 26) rfl O11.out R11.out rfl rfl (by rw [List.length_append, List.length_append]; have := L1.out; have := L2.out; have := L3.out; have := L4.out; omega) S11.out ?_; intro v12 w12 o12 g12 _; have hne := fun g hg => (O11.out.lt_ g hg).1; have O12 := Lib.hid o12.isB; have G12 := Lib.hid (grownR G11.out g12 (fun g hg => by have := hne g hg; omega)); clear o12 g12 hne))
  go_ret2
  exact WroteR.yes O12.out G12.out
end Go.Proofs.YtnaoagiphehcaaaDoor
