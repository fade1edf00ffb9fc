/- The walk of TlvNums. -/
import Derived.Test.YtmkdcnhhcfblgaaSpk
import Derived.Test.YtmkdcnhhcfblgaaReg
namespace Go.Proofs.Ytmkdcnhhcfblgaa
open Go.RowKit

theorem leB_num : ∀ f n, n < 256 ^ f → numOf (leB f n).reverse = n
  | 0, n, h => by simp at h; subst h; rfl
  | f + 1, n, h => by
    unfold leB
    split
    · next h0 => subst h0; rfl
    · rw [List.reverse_cons, numOf_snoc, leB_num f (n / 256) (by rw [Nat.pow_succ] at h; omega)]
      simp; omega
theorem numOf_numB (n : Nat) (h : n < 18446744073709551616) : numOf (numB n) = n := leB_num 8 n h
theorem leB_last : ∀ f n, n < 256 ^ f → (leB f n).getLast? ≠ some 0
  | 0, n, h => by simp [leB]
  | f + 1, n, h => by
    unfold leB
    split
    · simp
    · next h0 =>
      have ih := leB_last f (n / 256) (by rw [Nat.pow_succ] at h; omega)
      rw [List.getLast?_cons]
      cases hl : (leB f (n / 256)).getLast? with
      | some x => rw [hl] at ih; simpa using ih
      | none =>
        rw [List.getLast?_eq_none_iff] at hl
        have hz : n / 256 = 0 := by
          cases f with
          | zero => rw [Nat.pow_succ] at h; simp at h; omega
          | succ f => unfold leB at hl; split at hl <;> simp_all
        simp only [Option.getD_none, ne_eq, Option.some.injEq]
        intro he
        have := congrArg UInt8.toNat he
        simp at this
        omega
theorem readOf_numB (n : Nat) (h : n < 18446744073709551616) : readOf (numB n) = (n, true) := by
  have h1 : (numB n).length ≤ 8 := by unfold numB; rw [List.length_reverse]; exact leB_length 8 n
  have h2 : (numB n).head? ≠ some 0 := by unfold numB; rw [List.head?_reverse]; exact leB_last 8 n h
  rw [readOf, if_pos ⟨h1, h2⟩, numOf_numB n h]
theorem leB_ext : ∀ (l : List UInt8) (f : Nat), l.length ≤ f → l.getLast? ≠ some 0 → leB f (numOf l.reverse) = l
  | [], f, _, _ => by cases f <;> rfl
  | c :: l, 0, h, _ => by simp at h
  | c :: l, f + 1, h, hl => by
    rw [List.reverse_cons, numOf_snoc]
    have hc := c.toNat_lt
    have hne : numOf l.reverse * 256 + c.toNat ≠ 0 := by
      intro h0
      cases l with
      | nil => simp [numOf] at h0; exact hl (by simp [← UInt8.toNat_inj, h0])
      | cons d l =>
        have hl' : (d :: l).getLast? ≠ some 0 := by rw [List.getLast?_cons_cons] at hl; exact hl
        have ih := leB_ext (d :: l) f (by simp at h ⊢; omega) hl'
        have hz : numOf (d :: l).reverse = 0 := by omega
        rw [hz] at ih
        cases f <;> simp [leB] at ih
    have hl' : l.getLast? ≠ some 0 := by
      cases l with
      | nil => simp
      | cons d l => rw [List.getLast?_cons_cons] at hl; exact hl
    unfold leB
    rw [if_neg hne, show (numOf l.reverse * 256 + c.toNat) / 256 = numOf l.reverse by omega, leB_ext l f (by simp at h; omega) hl']
    congr 1
    apply UInt8.toNat_inj.1
    simp
theorem numB_numOf (l : List UInt8) (h : readOf l = (numOf l, true)) : numB (numOf l) = l := by
  have h1 : l.length ≤ 8 ∧ l.head? ≠ some 0 := by
    unfold readOf at h
    split at h
    · assumption
    · simp at h
  have := leB_ext l.reverse 8 (by simpa using h1.1) (by rw [List.getLast?_reverse]; exact h1.2)
  rw [List.reverse_reverse] at this
  rw [numB, this, List.reverse_reverse]

theorem refNum_sh (n : Nat) (w : World) (hn : n < 18446744073709551616) :
    Calls Try.prog 25 #[.int .u64 n] w fun e w' => ∃ A c, e = .returned (.slice A (numB n).length c) ∧ RB w' w'.heap.size A (numB n) c ∧ Below w.heap.size w w' :=
  (refNum_any n w hn).mono fun e w' ⟨v, he, ho, hb⟩ => by
    obtain ⟨A, c, hv, hr, _⟩ := ho.shape
    exact ⟨A, c, by rw [he, hv], hr, hb⟩
theorem num_sh (x : Int) (n : Nat) (hx : x = (n : Int)) (w : World) (hn : n < 18446744073709551616) :
    Calls Try.prog 22 #[.int .u64 x] w fun e w' => ∃ A c, e = .returned (.slice A (numB n).length c) ∧ RB w' w'.heap.size A (numB n) c ∧ Below w.heap.size w w' :=
  (num_at x n hx w hn).mono fun e w' ⟨v, he, ho, hb⟩ => by
    obtain ⟨A, c, hv, hr, _⟩ := ho.shape
    exact ⟨A, c, by rw [he, hv], hr, hb⟩
theorem Below.undrew {B : Nat} {w w' : World} (h : Below B w.drew w') : Below B w w' := ⟨h.os, h.tape, h.output, h.size, h.block⟩

set_option maxHeartbeats 1000000 in
theorem walk_TlvNums (w : World) (a0 : Int) (w0 : (Lit.int .u64 a0).wf = true) (A : Option Addr) (l : List UInt8) (cap : Nat) (h : RB w w.heap.size A l cap) :
    Calls Try.prog 7 #[.int .u64 a0, .slice A l.length cap] w fun e w' => e = .returned (.bool true) ∧ Below w.heap.size w w' := by
  obtain ⟨hn0, hn1⟩ := bounds_u64 w0
  obtain ⟨n, rfl⟩ := Int.eq_ofNat_of_zero_le hn0
  have hl : l.length ≤ 9223372036854775807 := Nat.le_trans h.1 h.2.1
  by_cases hbig : 100000 < l.length
  · clear w0 h
    go_enter Try.func7, Try.ntmps7
    go_wp2_with (go_at_call 10; refine (speaks_any _).mono ?_; rintro e w1 ⟨rfl, hb1⟩)
    go_ret
    exact ⟨rfl, hb1⟩
  have H := Lib.hid h
  clear h w0
  go_enter Try.func7, Try.ntmps7
  go_wp2_with (go_at_call 10; refine (speaks_any _).mono ?_; rintro e w1 ⟨rfl, hb1⟩)
  refine (num_any n _ (by omega)).mono ?_
  rintro e w2 ⟨v, rfl, hown2, hb2'⟩
  obtain ⟨A2, c2, rfl, hr2, -⟩ := hown2.shape
  have hb2 := hb1.trans (hb2'.mono hb1.size)
  clear hown2 hb2' hb1
  go_wp2_with fail
  refine (read_any A2 (numB n) c2 _ _ hr2).mono ?_
  rintro e w3 ⟨rfl, rfl⟩
  rw [readOf_numB n (by omega)]
  have HR2 := Lib.hid hr2
  clear hr2
  go_wp2_with (at_builtin; refine wpList_appB byteT rfl (.tmp 25) (.tmp 26) rfl (OwnB.new0 _ w.heap.size _ hb2.size) ((H.out.below hb2).alloc (Nat.le_trans (Nat.le_refl _) hb2.size) _) rfl rfl (by simp; omega) (by simp; have := hb2.size; omega) ?_; intro v' w' hown' hg' _ hat')
  rw [List.nil_append] at hown'
  obtain ⟨A3, c3, rfl, hr3, -⟩ := hown'.shape
  have hb3 : Below w.heap.size w w' := (hb2.alloc hb2.size _).grown hg' (by simp; have := hb2.size; omega) (fun k hk => by simp [Value.ownBlock] at hk; have := hb2.size; omega)
  have hb23 : Below _ _ w' := ((Below.refl _ _).alloc (Nat.le_refl _) _).grown hg' (by simp) (fun k hk => by simp [Value.ownBlock] at hk; omega)
  have hr2' := HR2.out.below hb23
  have h23 := hb23.size
  refine (read_any A3 l c3 _ _ hr3).mono ?_
  rintro e w4 ⟨rfl, rfl⟩
  have hrl := H.out.below hb3
  clear hr3 hown' hg' hat' hb23 HR2
  have HL := Lib.hid hrl
  have HR2 := Lib.hid hr2'
  clear hrl hr2'
  go_wp2_with fail
  refine (refRead_any A l cap _ _ HL.out).mono ?_
  rintro e w5 ⟨rfl, rfl⟩
  have hcases : readOf l = (0, false) ∨ readOf l = (numOf l, true) := by unfold readOf; split <;> simp
  rcases hcases with hc | hc
  · rw [hc]
    clear hc
    go_wp2_with fail
    have HN : Hid (∀ wx, Calls Try.prog 25 #[.int .u64 n] wx fun e w' => ∃ A c, e = .returned (.slice A (numB n).length c) ∧ RB w' w'.heap.size A (numB n) c ∧ Below wx.heap.size wx w') := fun wx => refNum_sh n wx (by omega)
    generalize numB n = bs at *
    have hs1 := str_from byteT Try.underlying9 (w := w'.drew) HR2.out h23
    clear hn0 hn1
    refine held_begin (by kernel_rfl) ?_
    refine held_take (i := 0) (d := some 36) (v := ?qv9_0) rfl rfl (by kernel_rfl) (fun _ _ _ h => h) ?qy9_0 ?_; case qy9_0 => (refine Or.inl ⟨rfl, fun wx hS => ?_⟩; go_simp; try with_reducible rfl)
    simp only [Act.put, List.setIfInBounds_toArray, List.set_cons_zero, List.set_cons_succ]
    refine held_take (i := 1) (d := some 37) (v := ?qv9_1) rfl rfl (by kernel_rfl) (fun _ _ _ h => h) ?qy9_1 ?_; case qy9_1 => (refine Or.inl ⟨rfl, fun wx hS => ?_⟩; go_simp; try with_reducible rfl)
    simp only [Act.put, List.setIfInBounds_toArray, List.set_cons_zero, List.set_cons_succ]
    refine held_take (i := 2) (d := some 38) (v := ?qv9_2) rfl rfl (by kernel_rfl) (fun _ _ _ h => h) ?qy9_2 ?_; case qy9_2 => (refine Or.inl ⟨rfl, fun wx hS => ?_⟩; go_simp; try with_reducible rfl)
    simp only [Act.put, List.setIfInBounds_toArray, List.set_cons_zero, List.set_cons_succ]
    refine held_one (i := 3) rfl (by kernel_rfl) rfl (fun K hK => ?_)
    go_simp
    refine (HN.out _).mono ?_
    rintro e w6 ⟨A6, c6, rfl, hr6, hb6⟩
    refine hK.out _ _ hb6 ?_
    have hs3 := str_from byteT Try.underlying9 hr6 (Nat.le_refl _)
    have hs1 := str_from byteT Try.underlying9 (HR2.out.below (Below.undrew (hb6.mono h23))) (Nat.le_trans h23 hb6.size)
    have hsl := str_from byteT Try.underlying9 (HL.out.below (Below.undrew (hb6.mono hb3.size))) (Nat.le_trans hb3.size hb6.size)
    clear hr6 hK K
    refine held_take (i := 4) (d := some 40) (v := ?qv9_4) rfl rfl (by kernel_rfl) (fun _ _ _ h => h) ?qy9_4 ?_; case qy9_4 => (refine Or.inl ⟨rfl, fun wx hS => ?_⟩; go_simp; try with_reducible rfl)
    simp only [Act.put, List.setIfInBounds_toArray, List.set_cons_zero, List.set_cons_succ]
    refine held_take (i := 5) (d := some 41) (v := ?qv9_5) rfl rfl (by kernel_rfl) (fun _ _ _ h => h) ?qy9_5 ?_; case qy9_5 => (refine Or.inl ⟨rfl, fun wx hS => ?_⟩; go_simp; try with_reducible rfl)
    simp only [Act.put, List.setIfInBounds_toArray, List.set_cons_zero, List.set_cons_succ]
    refine held_take (i := 6) (d := some 42) (v := ?qv9_6) rfl rfl (by kernel_rfl) (fun _ _ _ h => h) ?qy9_6 ?_; case qy9_6 => (refine Or.inl ⟨rfl, fun wx hS => ?_⟩; go_simp; try with_reducible rfl)
    simp only [Act.put, List.setIfInBounds_toArray, List.set_cons_zero, List.set_cons_succ]
    first | refine held_skip (i := 7) (d := some 43) rfl rfl (by kernel_rfl) (fun _ _ _ h => h) rfl ?_ | (refine held_take (i := 7) (d := some 43) (v := ?qv9_7) rfl rfl (by kernel_rfl) (fun _ _ _ h => h) ?qy9_7 ?_; case qy9_7 => (refine Or.inl ⟨rfl, fun wx hS => ?_⟩; go_simp; try with_reducible rfl))
    simp only [Act.put, List.setIfInBounds_toArray, List.set_cons_zero, List.set_cons_succ]
    refine held_take (i := 8) (d := some 44) (v := ?qv9_8) rfl rfl (by kernel_rfl) (fun _ _ _ h => h) ?qy9_8 ?_; case qy9_8 => (refine Or.inl ⟨rfl, fun wx hS => ?_⟩; go_simp; try with_reducible rfl)
    simp only [Act.put, List.setIfInBounds_toArray, List.set_cons_zero, List.set_cons_succ]
    refine held_take (i := 9) (d := some 45) (v := ?qv9_9) rfl rfl (by kernel_rfl) (fun _ _ _ h => h) ?qy9_9 ?_; case qy9_9 => (refine Or.inl ⟨rfl, fun wx hS => ?_⟩; go_simp; try with_reducible rfl)
    simp only [Act.put, List.setIfInBounds_toArray, List.set_cons_zero, List.set_cons_succ]
    first | refine held_skip (i := 10) (d := some 46) rfl rfl (by kernel_rfl) (fun _ _ _ h => h) rfl ?_ | (refine held_take (i := 10) (d := some 46) (v := ?qv9_10) rfl rfl (by kernel_rfl) (fun _ _ _ h => h) ?qy9_10 ?_; case qy9_10 => (refine Or.inl ⟨rfl, fun wx hS => ?_⟩; go_simp; try with_reducible rfl))
    simp only [Act.put, List.setIfInBounds_toArray, List.set_cons_zero, List.set_cons_succ]
    first | refine held_skip (i := 11) (d := some 47) rfl rfl (by kernel_rfl) (fun _ _ _ h => h) rfl ?_ | (refine held_take (i := 11) (d := some 47) (v := ?qv9_11) rfl rfl (by kernel_rfl) (fun _ _ _ h => h) ?qy9_11 ?_; case qy9_11 => (refine Or.inl ⟨rfl, fun wx hS => ?_⟩; go_simp; try with_reducible rfl))
    simp only [Act.put, List.setIfInBounds_toArray, List.set_cons_zero, List.set_cons_succ]
    first | refine held_skip (i := 12) (d := some 48) rfl rfl (by kernel_rfl) (fun _ _ _ h => h) rfl ?_ | (refine held_take (i := 12) (d := some 48) (v := ?qv9_12) rfl rfl (by kernel_rfl) (fun _ _ _ h => h) ?qy9_12 ?_; case qy9_12 => (refine Or.inl ⟨rfl, fun wx hS => ?_⟩; go_simp; try with_reducible rfl))
    simp only [Act.put, List.setIfInBounds_toArray, List.set_cons_zero, List.set_cons_succ]
    refine held_take (i := 13) (d := some 49) (v := ?qv9_13) rfl rfl (by kernel_rfl) (fun _ _ _ h => h) ?qy9_13 ?_; case qy9_13 => (refine Or.inl ⟨rfl, fun wx hS => ?_⟩; go_simp; try with_reducible rfl)
    simp only [Act.put, List.setIfInBounds_toArray, List.set_cons_zero, List.set_cons_succ]
    refine held_take (i := 14) (d := some 50) (v := ?qv9_14) rfl rfl (by kernel_rfl) (fun _ _ _ h => h) ?qy9_14 ?_; case qy9_14 => (refine Or.inl ⟨rfl, fun wx hS => ?_⟩; go_simp; try with_reducible rfl)
    simp only [Act.put, List.setIfInBounds_toArray, List.set_cons_zero, List.set_cons_succ]
    first | refine held_skip (i := 15) (d := some 51) rfl rfl (by kernel_rfl) (fun _ _ _ h => h) rfl ?_ | (refine held_take (i := 15) (d := some 51) (v := ?qv9_15) rfl rfl (by kernel_rfl) (fun _ _ _ h => h) ?qy9_15 ?_; case qy9_15 => (refine Or.inl ⟨rfl, fun wx hS => ?_⟩; go_simp; try with_reducible rfl))
    simp only [Act.put, List.setIfInBounds_toArray, List.set_cons_zero, List.set_cons_succ]
    first | refine held_skip (i := 16) (d := some 52) rfl rfl (by kernel_rfl) (fun _ _ _ h => h) rfl ?_ | (refine held_take (i := 16) (d := some 52) (v := ?qv9_16) rfl rfl (by kernel_rfl) (fun _ _ _ h => h) ?qy9_16 ?_; case qy9_16 => (refine Or.inl ⟨rfl, fun wx hS => ?_⟩; go_simp; try with_reducible rfl))
    simp only [Act.put, List.setIfInBounds_toArray, List.set_cons_zero, List.set_cons_succ]
    first | refine held_skip (i := 17) (d := some 53) rfl rfl (by kernel_rfl) (fun _ _ _ h => h) rfl ?_ | (refine held_take (i := 17) (d := some 53) (v := ?qv9_17) rfl rfl (by kernel_rfl) (fun _ _ _ h => h) ?qy9_17 ?_; case qy9_17 => (refine Or.inl ⟨rfl, fun wx hS => ?_⟩; go_simp; try with_reducible rfl))
    simp only [Act.put, List.setIfInBounds_toArray, List.set_cons_zero, List.set_cons_succ]
    refine held_take (i := 18) (d := some 54) (v := ?qv9_18) rfl rfl (by kernel_rfl) (fun _ _ _ h => h) ?qy9_18 ?_; case qy9_18 => (refine Or.inl ⟨rfl, fun wx hS => ?_⟩; go_simp; try with_reducible rfl)
    simp only [Act.put, List.setIfInBounds_toArray, List.set_cons_zero, List.set_cons_succ]
    refine held_take (i := 19) (d := some 55) (v := ?qv9_19) rfl rfl (by kernel_rfl) (fun _ _ _ h => h) ?qy9_19 ?_; case qy9_19 => (refine Or.inl ⟨rfl, fun wx hS => ?_⟩; go_simp; try with_reducible rfl)
    simp only [Act.put, List.setIfInBounds_toArray, List.set_cons_zero, List.set_cons_succ]
    first | refine held_skip (i := 20) (d := some 56) rfl rfl (by kernel_rfl) (fun _ _ _ h => h) rfl ?_ | (refine held_take (i := 20) (d := some 56) (v := ?qv9_20) rfl rfl (by kernel_rfl) (fun _ _ _ h => h) ?qy9_20 ?_; case qy9_20 => (refine Or.inl ⟨rfl, fun wx hS => ?_⟩; go_simp; try with_reducible rfl))
    simp only [Act.put, List.setIfInBounds_toArray, List.set_cons_zero, List.set_cons_succ]
    first | refine held_skip (i := 21) (d := some 57) rfl rfl (by kernel_rfl) (fun _ _ _ h => h) rfl ?_ | (refine held_take (i := 21) (d := some 57) (v := ?qv9_21) rfl rfl (by kernel_rfl) (fun _ _ _ h => h) ?qy9_21 ?_; case qy9_21 => (refine Or.inl ⟨rfl, fun wx hS => ?_⟩; go_simp; try with_reducible rfl))
    simp only [Act.put, List.setIfInBounds_toArray, List.set_cons_zero, List.set_cons_succ]
    first | refine held_skip (i := 22) (d := some 58) rfl rfl (by kernel_rfl) (fun _ _ _ h => h) rfl ?_ | (refine held_take (i := 22) (d := some 58) (v := ?qv9_22) rfl rfl (by kernel_rfl) (fun _ _ _ h => h) ?qy9_22 ?_; case qy9_22 => (refine Or.inl ⟨rfl, fun wx hS => ?_⟩; go_simp; try with_reducible rfl))
    simp only [Act.put, List.setIfInBounds_toArray, List.set_cons_zero, List.set_cons_succ]
    refine held_take (i := 23) (d := some 59) (v := ?qv9_23) rfl rfl (by kernel_rfl) (fun _ _ _ h => h) ?qy9_23 ?_; case qy9_23 => (refine Or.inl ⟨rfl, fun wx hS => ?_⟩; go_simp; try with_reducible rfl)
    simp only [Act.put, List.setIfInBounds_toArray, List.set_cons_zero, List.set_cons_succ]
    refine held_take (i := 24) (d := some 60) (v := ?qv9_24) rfl rfl (by kernel_rfl) (fun _ _ _ h => h) ?qy9_24 ?_; case qy9_24 => (refine Or.inl ⟨rfl, fun wx hS => ?_⟩; go_simp; try with_reducible rfl)
    simp only [Act.put, List.setIfInBounds_toArray, List.set_cons_zero, List.set_cons_succ]
    first | refine held_skip (i := 25) (d := some 61) rfl rfl (by kernel_rfl) (fun _ _ _ h => h) rfl ?_ | (refine held_take (i := 25) (d := some 61) (v := ?qv9_25) rfl rfl (by kernel_rfl) (fun _ _ _ h => h) ?qy9_25 ?_; case qy9_25 => (refine Or.inl ⟨rfl, fun wx hS => ?_⟩; go_simp; try with_reducible rfl))
    simp only [Act.put, List.setIfInBounds_toArray, List.set_cons_zero, List.set_cons_succ]
    first | refine held_skip (i := 26) (d := some 62) rfl rfl (by kernel_rfl) (fun _ _ _ h => h) rfl ?_ | (refine held_take (i := 26) (d := some 62) (v := ?qv9_26) rfl rfl (by kernel_rfl) (fun _ _ _ h => h) ?qy9_26 ?_; case qy9_26 => (refine Or.inl ⟨rfl, fun wx hS => ?_⟩; go_simp; try with_reducible rfl))
    simp only [Act.put, List.setIfInBounds_toArray, List.set_cons_zero, List.set_cons_succ]
    first | refine held_skip (i := 27) (d := some 63) rfl rfl (by kernel_rfl) (fun _ _ _ h => h) rfl ?_ | (refine held_take (i := 27) (d := some 63) (v := ?qv9_27) rfl rfl (by kernel_rfl) (fun _ _ _ h => h) ?qy9_27 ?_; case qy9_27 => (refine Or.inl ⟨rfl, fun wx hS => ?_⟩; go_simp; try with_reducible rfl))
    simp only [Act.put, List.setIfInBounds_toArray, List.set_cons_zero, List.set_cons_succ]
    first | refine held_skip (i := 28) (d := some 64) rfl rfl (by kernel_rfl) (fun _ _ _ h => h) rfl ?_ | (refine held_take (i := 28) (d := some 64) (v := ?qv9_28) rfl rfl (by kernel_rfl) (fun _ _ _ h => h) ?qy9_28 ?_; case qy9_28 => (refine Or.inl ⟨rfl, fun wx hS => ?_⟩; go_simp; try with_reducible rfl))
    simp only [Act.put, List.setIfInBounds_toArray, List.set_cons_zero, List.set_cons_succ]
    first | refine held_skip (i := 31) (d := some 67) rfl rfl (by kernel_rfl) (fun _ _ _ h => h) rfl ?_ | (refine held_take (i := 31) (d := some 67) (v := ?qv9_31) rfl rfl (by kernel_rfl) (fun _ _ _ h => h) ?qy9_31 ?_; case qy9_31 => (refine Or.inl ⟨rfl, fun wx hS => ?_⟩; go_simp; try with_reducible rfl))
    simp only [Act.put, List.setIfInBounds_toArray, List.set_cons_zero, List.set_cons_succ]
    first | refine held_skip (i := 32) (d := some 68) rfl rfl (by kernel_rfl) (fun _ _ _ h => h) rfl ?_ | (refine held_take (i := 32) (d := some 68) (v := ?qv9_32) rfl rfl (by kernel_rfl) (fun _ _ _ h => h) ?qy9_32 ?_; case qy9_32 => (refine Or.inl ⟨rfl, fun wx hS => ?_⟩; go_simp; try with_reducible rfl))
    simp only [Act.put, List.setIfInBounds_toArray, List.set_cons_zero, List.set_cons_succ]
    first | refine held_skip (i := 29) (d := some 65) rfl rfl (by kernel_rfl) (fun _ _ _ h => h) rfl ?_ | (refine held_take (i := 29) (d := some 65) (v := ?qv9_29) rfl rfl (by kernel_rfl) (fun _ _ _ h => h) ?qy9_29 ?_; case qy9_29 => (refine Or.inl ⟨rfl, fun wx hS => ?_⟩; go_simp; try with_reducible rfl))
    simp only [Act.put, List.setIfInBounds_toArray, List.set_cons_zero, List.set_cons_succ]
    first | refine held_skip (i := 30) (d := some 66) rfl rfl (by kernel_rfl) (fun _ _ _ h => h) rfl ?_ | (refine held_take (i := 30) (d := some 66) (v := ?qv9_30) rfl rfl (by kernel_rfl) (fun _ _ _ h => h) ?qy9_30 ?_; case qy9_30 => (refine Or.inl ⟨rfl, fun wx hS => ?_⟩; go_simp; try with_reducible rfl))
    simp only [Act.put, List.setIfInBounds_toArray, List.set_cons_zero, List.set_cons_succ]
    first | refine held_skip (i := 33) (d := some 69) rfl rfl (by kernel_rfl) (fun _ _ _ h => h) rfl ?_ | (refine held_take (i := 33) (d := some 69) (v := ?qv9_33) rfl rfl (by kernel_rfl) (fun _ _ _ h => h) ?qy9_33 ?_; case qy9_33 => (refine Or.inl ⟨rfl, fun wx hS => ?_⟩; go_simp; try with_reducible rfl))
    simp only [Act.put, List.setIfInBounds_toArray, List.set_cons_zero, List.set_cons_succ]
    first | refine held_skip (i := 34) (d := some 70) rfl rfl (by kernel_rfl) (fun _ _ _ h => h) rfl ?_ | (refine held_take (i := 34) (d := some 70) (v := ?qv9_34) rfl rfl (by kernel_rfl) (fun _ _ _ h => h) ?qy9_34 ?_; case qy9_34 => (refine Or.inl ⟨rfl, fun wx hS => ?_⟩; go_simp; try with_reducible rfl))
    simp only [Act.put, List.setIfInBounds_toArray, List.set_cons_zero, List.set_cons_succ]
    refine held_take (i := 35) (d := some 71) (v := ?qv9_35) rfl rfl (by kernel_rfl) (fun _ _ _ h => h) ?qy9_35 ?_; case qy9_35 => (refine Or.inl ⟨rfl, fun wx hS => ?_⟩; go_simp; try with_reducible rfl)
    simp only [Act.put, List.setIfInBounds_toArray, List.set_cons_zero, List.set_cons_succ]
    refine held_take (i := 36) (d := some 4) (v := ?qv9_36) rfl rfl (by kernel_rfl) (fun _ _ _ h => h) ?qy9_36 ?_; case qy9_36 => (refine Or.inl ⟨rfl, fun wx hS => ?_⟩; go_simp; try with_reducible rfl)
    simp only [Act.put, List.setIfInBounds_toArray, List.set_cons_zero, List.set_cons_succ]
    refine held_end (by kernel_rfl) ?_ _
    go_wp2
    go_ret
    exact ⟨rfl, hb3.trans ((Below.undrew hb6).mono hb3.size)⟩
  · have hnb := numB_numOf l hc
    have h8 : l.length ≤ 8 := by
      unfold readOf at hc
      split at hc
      · next h => exact h.1
      · simp at hc
    have h64 := foldl_lt l 0 0 (by simp)
    have h65 : 256 ^ (0 + l.length) ≤ 256 ^ 8 := Nat.pow_le_pow_right (by omega) (by omega)
    have HM : Hid (∀ wx, Calls Try.prog 22 #[.int .u64 (numOf l)] wx fun e w' => ∃ A c, e = .returned (.slice A l.length c) ∧ RB w' w'.heap.size A l c ∧ Below wx.heap.size wx w') := fun wx => by
      have := num_sh (numOf l) (numOf l) rfl wx (Nat.lt_of_lt_of_le h64 h65)
      rw [hnb] at this
      exact this
    rw [hc]
    clear hc hnb h64 h65
    generalize numOf l = m at *
    go_wp2_with fail
    have HN : Hid (∀ wx, Calls Try.prog 25 #[.int .u64 n] wx fun e w' => ∃ A c, e = .returned (.slice A (numB n).length c) ∧ RB w' w'.heap.size A (numB n) c ∧ Below wx.heap.size wx w') := fun wx => refNum_sh n wx (by omega)
    generalize numB n = bs at *
    have hs1 := str_from byteT Try.underlying9 (w := w'.drew) HR2.out h23
    clear hn0 hn1
    refine held_begin (by kernel_rfl) ?_
    refine held_take (i := 0) (d := some 36) (v := ?qv19_0) rfl rfl (by kernel_rfl) (fun _ _ _ h => h) ?qy19_0 ?_; case qy19_0 => (refine Or.inl ⟨rfl, fun wx hS => ?_⟩; go_simp; try with_reducible rfl)
    simp only [Act.put, List.setIfInBounds_toArray, List.set_cons_zero, List.set_cons_succ]
    refine held_take (i := 1) (d := some 37) (v := ?qv19_1) rfl rfl (by kernel_rfl) (fun _ _ _ h => h) ?qy19_1 ?_; case qy19_1 => (refine Or.inl ⟨rfl, fun wx hS => ?_⟩; go_simp; try with_reducible rfl)
    simp only [Act.put, List.setIfInBounds_toArray, List.set_cons_zero, List.set_cons_succ]
    refine held_take (i := 2) (d := some 38) (v := ?qv19_2) rfl rfl (by kernel_rfl) (fun _ _ _ h => h) ?qy19_2 ?_; case qy19_2 => (refine Or.inl ⟨rfl, fun wx hS => ?_⟩; go_simp; try with_reducible rfl)
    simp only [Act.put, List.setIfInBounds_toArray, List.set_cons_zero, List.set_cons_succ]
    refine held_one (i := 3) rfl (by kernel_rfl) rfl (fun K hK => ?_)
    go_simp
    refine (HN.out _).mono ?_
    rintro e w6 ⟨A6, c6, rfl, hr6, hb6⟩
    refine hK.out _ _ hb6 ?_
    have hs3 := str_from byteT Try.underlying9 hr6 (Nat.le_refl _)
    have hs1 := str_from byteT Try.underlying9 (HR2.out.below (Below.undrew (hb6.mono h23))) (Nat.le_trans h23 hb6.size)
    have hsl := str_from byteT Try.underlying9 (HL.out.below (Below.undrew (hb6.mono hb3.size))) (Nat.le_trans hb3.size hb6.size)
    clear hr6 hK K
    refine held_take (i := 4) (d := some 40) (v := ?qv19_4) rfl rfl (by kernel_rfl) (fun _ _ _ h => h) ?qy19_4 ?_; case qy19_4 => (refine Or.inl ⟨rfl, fun wx hS => ?_⟩; go_simp; try with_reducible rfl)
    simp only [Act.put, List.setIfInBounds_toArray, List.set_cons_zero, List.set_cons_succ]
    refine held_take (i := 5) (d := some 41) (v := ?qv19_5) rfl rfl (by kernel_rfl) (fun _ _ _ h => h) ?qy19_5 ?_; case qy19_5 => (refine Or.inl ⟨rfl, fun wx hS => ?_⟩; go_simp; try with_reducible rfl)
    simp only [Act.put, List.setIfInBounds_toArray, List.set_cons_zero, List.set_cons_succ]
    refine held_take (i := 6) (d := some 42) (v := ?qv19_6) rfl rfl (by kernel_rfl) (fun _ _ _ h => h) ?qy19_6 ?_; case qy19_6 => (refine Or.inl ⟨rfl, fun wx hS => ?_⟩; go_simp; try with_reducible rfl)
    simp only [Act.put, List.setIfInBounds_toArray, List.set_cons_zero, List.set_cons_succ]
    first | refine held_skip (i := 7) (d := some 43) rfl rfl (by kernel_rfl) (fun _ _ _ h => h) rfl ?_ | (refine held_take (i := 7) (d := some 43) (v := ?qv19_7) rfl rfl (by kernel_rfl) (fun _ _ _ h => h) ?qy19_7 ?_; case qy19_7 => (refine Or.inl ⟨rfl, fun wx hS => ?_⟩; go_simp; try with_reducible rfl))
    simp only [Act.put, List.setIfInBounds_toArray, List.set_cons_zero, List.set_cons_succ]
    refine held_take (i := 8) (d := some 44) (v := ?qv19_8) rfl rfl (by kernel_rfl) (fun _ _ _ h => h) ?qy19_8 ?_; case qy19_8 => (refine Or.inl ⟨rfl, fun wx hS => ?_⟩; go_simp; try with_reducible rfl)
    simp only [Act.put, List.setIfInBounds_toArray, List.set_cons_zero, List.set_cons_succ]
    refine held_take (i := 9) (d := some 45) (v := ?qv19_9) rfl rfl (by kernel_rfl) (fun _ _ _ h => h) ?qy19_9 ?_; case qy19_9 => (refine Or.inl ⟨rfl, fun wx hS => ?_⟩; go_simp; try with_reducible rfl)
    simp only [Act.put, List.setIfInBounds_toArray, List.set_cons_zero, List.set_cons_succ]
    first | refine held_skip (i := 10) (d := some 46) rfl rfl (by kernel_rfl) (fun _ _ _ h => h) rfl ?_ | (refine held_take (i := 10) (d := some 46) (v := ?qv19_10) rfl rfl (by kernel_rfl) (fun _ _ _ h => h) ?qy19_10 ?_; case qy19_10 => (refine Or.inl ⟨rfl, fun wx hS => ?_⟩; go_simp; try with_reducible rfl))
    simp only [Act.put, List.setIfInBounds_toArray, List.set_cons_zero, List.set_cons_succ]
    first | refine held_skip (i := 11) (d := some 47) rfl rfl (by kernel_rfl) (fun _ _ _ h => h) rfl ?_ | (refine held_take (i := 11) (d := some 47) (v := ?qv19_11) rfl rfl (by kernel_rfl) (fun _ _ _ h => h) ?qy19_11 ?_; case qy19_11 => (refine Or.inl ⟨rfl, fun wx hS => ?_⟩; go_simp; try with_reducible rfl))
    simp only [Act.put, List.setIfInBounds_toArray, List.set_cons_zero, List.set_cons_succ]
    first | refine held_skip (i := 12) (d := some 48) rfl rfl (by kernel_rfl) (fun _ _ _ h => h) rfl ?_ | (refine held_take (i := 12) (d := some 48) (v := ?qv19_12) rfl rfl (by kernel_rfl) (fun _ _ _ h => h) ?qy19_12 ?_; case qy19_12 => (refine Or.inl ⟨rfl, fun wx hS => ?_⟩; go_simp; try with_reducible rfl))
    simp only [Act.put, List.setIfInBounds_toArray, List.set_cons_zero, List.set_cons_succ]
    refine held_take (i := 13) (d := some 49) (v := ?qv19_13) rfl rfl (by kernel_rfl) (fun _ _ _ h => h) ?qy19_13 ?_; case qy19_13 => (refine Or.inl ⟨rfl, fun wx hS => ?_⟩; go_simp; try with_reducible rfl)
    simp only [Act.put, List.setIfInBounds_toArray, List.set_cons_zero, List.set_cons_succ]
    refine held_take (i := 14) (d := some 50) (v := ?qv19_14) rfl rfl (by kernel_rfl) (fun _ _ _ h => h) ?qy19_14 ?_; case qy19_14 => (refine Or.inl ⟨rfl, fun wx hS => ?_⟩; go_simp; try with_reducible rfl)
    simp only [Act.put, List.setIfInBounds_toArray, List.set_cons_zero, List.set_cons_succ]
    first | refine held_skip (i := 15) (d := some 51) rfl rfl (by kernel_rfl) (fun _ _ _ h => h) rfl ?_ | (refine held_take (i := 15) (d := some 51) (v := ?qv19_15) rfl rfl (by kernel_rfl) (fun _ _ _ h => h) ?qy19_15 ?_; case qy19_15 => (refine Or.inl ⟨rfl, fun wx hS => ?_⟩; go_simp; try with_reducible rfl))
    simp only [Act.put, List.setIfInBounds_toArray, List.set_cons_zero, List.set_cons_succ]
    first | refine held_skip (i := 16) (d := some 52) rfl rfl (by kernel_rfl) (fun _ _ _ h => h) rfl ?_ | (refine held_take (i := 16) (d := some 52) (v := ?qv19_16) rfl rfl (by kernel_rfl) (fun _ _ _ h => h) ?qy19_16 ?_; case qy19_16 => (refine Or.inl ⟨rfl, fun wx hS => ?_⟩; go_simp; try with_reducible rfl))
    simp only [Act.put, List.setIfInBounds_toArray, List.set_cons_zero, List.set_cons_succ]
    first | refine held_skip (i := 17) (d := some 53) rfl rfl (by kernel_rfl) (fun _ _ _ h => h) rfl ?_ | (refine held_take (i := 17) (d := some 53) (v := ?qv19_17) rfl rfl (by kernel_rfl) (fun _ _ _ h => h) ?qy19_17 ?_; case qy19_17 => (refine Or.inl ⟨rfl, fun wx hS => ?_⟩; go_simp; try with_reducible rfl))
    simp only [Act.put, List.setIfInBounds_toArray, List.set_cons_zero, List.set_cons_succ]
    refine held_take (i := 18) (d := some 54) (v := ?qv19_18) rfl rfl (by kernel_rfl) (fun _ _ _ h => h) ?qy19_18 ?_; case qy19_18 => (refine Or.inl ⟨rfl, fun wx hS => ?_⟩; go_simp; try with_reducible rfl)
    simp only [Act.put, List.setIfInBounds_toArray, List.set_cons_zero, List.set_cons_succ]
    refine held_take (i := 19) (d := some 55) (v := ?qv19_19) rfl rfl (by kernel_rfl) (fun _ _ _ h => h) ?qy19_19 ?_; case qy19_19 => (refine Or.inl ⟨rfl, fun wx hS => ?_⟩; go_simp; try with_reducible rfl)
    simp only [Act.put, List.setIfInBounds_toArray, List.set_cons_zero, List.set_cons_succ]
    first | refine held_skip (i := 20) (d := some 56) rfl rfl (by kernel_rfl) (fun _ _ _ h => h) rfl ?_ | (refine held_take (i := 20) (d := some 56) (v := ?qv19_20) rfl rfl (by kernel_rfl) (fun _ _ _ h => h) ?qy19_20 ?_; case qy19_20 => (refine Or.inl ⟨rfl, fun wx hS => ?_⟩; go_simp; try with_reducible rfl))
    simp only [Act.put, List.setIfInBounds_toArray, List.set_cons_zero, List.set_cons_succ]
    first | refine held_skip (i := 21) (d := some 57) rfl rfl (by kernel_rfl) (fun _ _ _ h => h) rfl ?_ | (refine held_take (i := 21) (d := some 57) (v := ?qv19_21) rfl rfl (by kernel_rfl) (fun _ _ _ h => h) ?qy19_21 ?_; case qy19_21 => (refine Or.inl ⟨rfl, fun wx hS => ?_⟩; go_simp; try with_reducible rfl))
    simp only [Act.put, List.setIfInBounds_toArray, List.set_cons_zero, List.set_cons_succ]
    first | refine held_skip (i := 22) (d := some 58) rfl rfl (by kernel_rfl) (fun _ _ _ h => h) rfl ?_ | (refine held_take (i := 22) (d := some 58) (v := ?qv19_22) rfl rfl (by kernel_rfl) (fun _ _ _ h => h) ?qy19_22 ?_; case qy19_22 => (refine Or.inl ⟨rfl, fun wx hS => ?_⟩; go_simp; try with_reducible rfl))
    simp only [Act.put, List.setIfInBounds_toArray, List.set_cons_zero, List.set_cons_succ]
    refine held_take (i := 23) (d := some 59) (v := ?qv19_23) rfl rfl (by kernel_rfl) (fun _ _ _ h => h) ?qy19_23 ?_; case qy19_23 => (refine Or.inl ⟨rfl, fun wx hS => ?_⟩; go_simp; try with_reducible rfl)
    simp only [Act.put, List.setIfInBounds_toArray, List.set_cons_zero, List.set_cons_succ]
    refine held_take (i := 24) (d := some 60) (v := ?qv19_24) rfl rfl (by kernel_rfl) (fun _ _ _ h => h) ?qy19_24 ?_; case qy19_24 => (refine Or.inl ⟨rfl, fun wx hS => ?_⟩; go_simp; try with_reducible rfl)
    simp only [Act.put, List.setIfInBounds_toArray, List.set_cons_zero, List.set_cons_succ]
    first | refine held_skip (i := 25) (d := some 61) rfl rfl (by kernel_rfl) (fun _ _ _ h => h) rfl ?_ | (refine held_take (i := 25) (d := some 61) (v := ?qv19_25) rfl rfl (by kernel_rfl) (fun _ _ _ h => h) ?qy19_25 ?_; case qy19_25 => (refine Or.inl ⟨rfl, fun wx hS => ?_⟩; go_simp; try with_reducible rfl))
    simp only [Act.put, List.setIfInBounds_toArray, List.set_cons_zero, List.set_cons_succ]
    first | refine held_skip (i := 26) (d := some 62) rfl rfl (by kernel_rfl) (fun _ _ _ h => h) rfl ?_ | (refine held_take (i := 26) (d := some 62) (v := ?qv19_26) rfl rfl (by kernel_rfl) (fun _ _ _ h => h) ?qy19_26 ?_; case qy19_26 => (refine Or.inl ⟨rfl, fun wx hS => ?_⟩; go_simp; try with_reducible rfl))
    simp only [Act.put, List.setIfInBounds_toArray, List.set_cons_zero, List.set_cons_succ]
    first | refine held_skip (i := 27) (d := some 63) rfl rfl (by kernel_rfl) (fun _ _ _ h => h) rfl ?_ | (refine held_take (i := 27) (d := some 63) (v := ?qv19_27) rfl rfl (by kernel_rfl) (fun _ _ _ h => h) ?qy19_27 ?_; case qy19_27 => (refine Or.inl ⟨rfl, fun wx hS => ?_⟩; go_simp; try with_reducible rfl))
    simp only [Act.put, List.setIfInBounds_toArray, List.set_cons_zero, List.set_cons_succ]
    first | refine held_skip (i := 28) (d := some 64) rfl rfl (by kernel_rfl) (fun _ _ _ h => h) rfl ?_ | (refine held_take (i := 28) (d := some 64) (v := ?qv19_28) rfl rfl (by kernel_rfl) (fun _ _ _ h => h) ?qy19_28 ?_; case qy19_28 => (refine Or.inl ⟨rfl, fun wx hS => ?_⟩; go_simp; try with_reducible rfl))
    simp only [Act.put, List.setIfInBounds_toArray, List.set_cons_zero, List.set_cons_succ]
    first | refine held_skip (i := 31) (d := some 67) rfl rfl (by kernel_rfl) (fun _ _ _ h => h) rfl ?_ | (refine held_take (i := 31) (d := some 67) (v := ?qv19_31) rfl rfl (by kernel_rfl) (fun _ _ _ h => h) ?qy19_31 ?_; case qy19_31 => (refine Or.inl ⟨rfl, fun wx hS => ?_⟩; go_simp; try with_reducible rfl))
    simp only [Act.put, List.setIfInBounds_toArray, List.set_cons_zero, List.set_cons_succ]
    first | refine held_skip (i := 32) (d := some 68) rfl rfl (by kernel_rfl) (fun _ _ _ h => h) rfl ?_ | (refine held_take (i := 32) (d := some 68) (v := ?qv19_32) rfl rfl (by kernel_rfl) (fun _ _ _ h => h) ?qy19_32 ?_; case qy19_32 => (refine Or.inl ⟨rfl, fun wx hS => ?_⟩; go_simp; try with_reducible rfl))
    simp only [Act.put, List.setIfInBounds_toArray, List.set_cons_zero, List.set_cons_succ]
    refine held_one (i := 29) rfl (by kernel_rfl) rfl (fun K hK => ?_)
    go_simp
    refine (HM.out _).mono ?_
    rintro e w7 ⟨A7, c7, rfl, hr7, hb7⟩
    refine hK.out _ _ hb7 ?_
    have hs7 := str_from byteT Try.underlying9 hr7 (Nat.le_refl _)
    clear hr7 hK K
    first | refine held_skip (i := 30) (d := some 66) rfl rfl (by kernel_rfl) (fun _ _ _ h => h) rfl ?_ | (refine held_take (i := 30) (d := some 66) (v := ?qv19_30) rfl rfl (by kernel_rfl) (fun _ _ _ h => h) ?qy19_30 ?_; case qy19_30 => (refine Or.inl ⟨rfl, fun wx hS => ?_⟩; go_simp; try with_reducible rfl))
    simp only [Act.put, List.setIfInBounds_toArray, List.set_cons_zero, List.set_cons_succ]
    first | refine held_skip (i := 33) (d := some 69) rfl rfl (by kernel_rfl) (fun _ _ _ h => h) rfl ?_ | (refine held_take (i := 33) (d := some 69) (v := ?qv19_33) rfl rfl (by kernel_rfl) (fun _ _ _ h => h) ?qy19_33 ?_; case qy19_33 => (refine Or.inl ⟨rfl, fun wx hS => ?_⟩; go_simp; try with_reducible rfl))
    simp only [Act.put, List.setIfInBounds_toArray, List.set_cons_zero, List.set_cons_succ]
    first | refine held_skip (i := 34) (d := some 70) rfl rfl (by kernel_rfl) (fun _ _ _ h => h) rfl ?_ | (refine held_take (i := 34) (d := some 70) (v := ?qv19_34) rfl rfl (by kernel_rfl) (fun _ _ _ h => h) ?qy19_34 ?_; case qy19_34 => (refine Or.inl ⟨rfl, fun wx hS => ?_⟩; go_simp; try with_reducible rfl))
    simp only [Act.put, List.setIfInBounds_toArray, List.set_cons_zero, List.set_cons_succ]
    refine held_take (i := 35) (d := some 71) (v := ?qv19_35) rfl rfl (by kernel_rfl) (fun _ _ _ h => h) ?qy19_35 ?_; case qy19_35 => (refine Or.inl ⟨rfl, fun wx hS => ?_⟩; go_simp; try with_reducible rfl)
    simp only [Act.put, List.setIfInBounds_toArray, List.set_cons_zero, List.set_cons_succ]
    refine held_take (i := 36) (d := some 4) (v := ?qv19_36) rfl rfl (by kernel_rfl) (fun _ _ _ h => h) ?qy19_36 ?_; case qy19_36 => (refine Or.inl ⟨rfl, fun wx hS => ?_⟩; go_simp; try with_reducible rfl)
    simp only [Act.put, List.setIfInBounds_toArray, List.set_cons_zero, List.set_cons_succ]
    refine held_end (by kernel_rfl) ?_ _
    go_wp2
    go_ret
    exact ⟨rfl, hb3.trans (((Below.undrew hb6).mono hb3.size).trans (hb7.mono (Nat.le_trans hb3.size hb6.size)))⟩
end Go.Proofs.Ytmkdcnhhcfblgaa
