/- The walk of AesTwice. -/
import Derived.Test.YtbpkaaajcimcgabEqa
namespace Go.Proofs.Ytbpkaaajcimcgab
open Go.RowKit

theorem and_low (k : Int) (j : Nat) (hj : j ≤ 62) : ∃ m : Nat, m < 2 ^ j ∧ bits .and .i64 k ((2 ^ j - 1 : Nat) : Int) = (m : Int) := by
  have hp : 2 ^ j ≤ 2 ^ 62 := Nat.pow_le_pow_right (by decide) hj
  have h2 : (2 : Nat) ^ 62 = 4611686018427387904 := by decide
  refine ⟨(BitVec.ofInt 64 k).toNat % 2 ^ j, Nat.mod_lt _ (Nat.two_pow_pos j), ?_⟩
  have hb : (BitVec.ofInt 64 (((2 ^ j - 1 : Nat) : Int))).toNat = 2 ^ j - 1 := by
    rw [BitVec.ofInt_natCast, BitVec.toNat_ofNat]
    exact Nat.mod_eq_of_lt (by omega)
  have hm := Nat.mod_lt (BitVec.ofInt 64 k).toNat (Nat.two_pow_pos j)
  show IntKind.i64.wrap (((BitVec.ofInt 64 k &&& BitVec.ofInt 64 ((2 ^ j - 1 : Nat) : Int)).toNat : Nat) : Int) = _
  rw [BitVec.toNat_and, hb, Nat.and_two_pow_sub_one_eq_mod, IntKind.wrap_i64]
  omega

theorem x_back (x y : UInt8) : (x ^^^ y) ^^^ y = x := by rw [UInt8.xor_assoc, UInt8.xor_self, UInt8.xor_zero]
theorem streamOf_at (K : List UInt8) (n : Nat) (l : List UInt8) (i : Nat) (u : UInt8) (hu : l[i]? = some u) : (streamOf K n l)[i]? = some (u ^^^ (blockOf K (counterOf n (i / 16))).getD (i % 16) 0) := by
  have hi := (List.getElem?_eq_some_iff.1 hu).1
  rw [streamOf, List.getElem?_map, List.getElem?_range hi]
  simp only [Option.map_some, List.getD, hu, Option.getD_some]
theorem streamOf_back (K : List UInt8) (n : Nat) (l : List UInt8) : streamOf K n (streamOf K n l) = l := by
  apply List.ext_getElem?
  intro i
  by_cases hi : i < l.length
  · rw [streamOf_at K n _ i _ (streamOf_at K n l i _ (List.getElem?_eq_getElem hi)), x_back, List.getElem?_eq_getElem hi]
  · rw [List.getElem?_eq_none (by rw [streamOf_length, streamOf_length]; omega), List.getElem?_eq_none (by omega)]
theorem streamOf_take (K : List UInt8) (n : Nat) (l : List UInt8) (q : Nat) : streamOf K n (l.take q) = (streamOf K n l).take q := by
  apply List.ext_getElem?
  intro i
  by_cases hi : i < q
  · rw [List.getElem?_take_of_lt hi]
    by_cases hl : i < l.length
    · rw [streamOf_at K n l i _ (List.getElem?_eq_getElem hl), streamOf_at K n _ i l[i] (by rw [List.getElem?_take_of_lt hi, List.getElem?_eq_getElem hl])]
    · rw [List.getElem?_eq_none (by rw [streamOf_length, List.length_take]; omega), List.getElem?_eq_none (by rw [streamOf_length]; omega)]
  · rw [List.getElem?_eq_none (by rw [streamOf_length, List.length_take]; omega), List.getElem?_eq_none (by rw [List.length_take]; omega)]

set_option maxRecDepth 10000 in
set_option maxHeartbeats 2000000 in
theorem walk_AesTwice (w : World) (key : List UInt8) (hk : key.length = 16) (A : Option Addr) (l : List UInt8) (cap : Nat) (h : RB w w.heap.size A l cap) (n : Int) (_w2 : (Lit.int .i64 n).wf = true) :
    Calls Try.prog 5 #[.agg (bcells key).toArray, .slice A l.length cap, .int .i64 n] w fun e w' => e = .returned (.bool true) ∧ Below w.heap.size w w' := by
  have hl : l.length ≤ 9223372036854775807 := Nat.le_trans h.1 h.2.1
  have hcap : cap ≤ 9223372036854775807 := h.2.1
  have hlc : l.length ≤ cap := h.1
  have HLK := Lib.hid hk
  have HR := Lib.hid h
  have h3 := BB.new w 23 key
  have H3 := Lib.hid h3
  have HBE := Lib.hid ((Below.refl w.heap.size w).alloc (Nat.le_refl _) (.cells (bcells key).toArray 23))
  clear hk h h3
  by_cases hout : 1000 < l.length
  · have ho : (1000 : Int) < (l.length : Int) := by omega
    go_enter Try.func5, Try.ntmps5
    go_wp2_with (go_at_call 8; refine (speaks_any _).mono ?_; rintro e w1 ⟨rfl, hb1⟩)
    go_ret
    exact ⟨rfl, HBE.out.trans (hb1.mono (by simp))⟩
  have ho : ¬ (1000 : Int) < (l.length : Int) := by omega
  obtain ⟨m, hm, hmk⟩ := and_low n 16 (by decide)
  have hmk' : bits .and .i64 n 65535 = (m : Int) := hmk
  obtain ⟨q, hq0, hq⟩ : ∃ q : Nat, q ≤ l.length ∧ (m : Int) % ((l.length : Int) + 1) = (q : Int) := by
    refine ⟨m % (l.length + 1), Nat.le_of_lt_succ (Nat.mod_lt _ (by omega)), ?_⟩
    rw [show (l.length : Int) + 1 = ((l.length + 1 : Nat) : Int) by omega]
    exact (Int.natCast_emod _ _).symm
  have hqc : q ≤ cap := by omega
  have hqi : (q : Int) ≤ (cap : Int) := by omega
  have HINV := Lib.hid (streamOf_back (keyed key) 7 l)
  have HTK := Lib.hid (streamOf_take (keyed key) 7 l q)
  have HTL := Lib.hid (show (l.take q).length = q by rw [List.length_take]; omega)
  have HTL2 := Lib.hid (show ((streamOf (keyed key) 7 l).take q).length = q by rw [List.length_take, streamOf_length]; omega)
  have hm0 : 0 ≤ (m : Int) := by omega
  clear hmk hm hout
  go_enter Try.func5, Try.ntmps5
  go_wp2_with (first
    | (go_at_call 8; refine (speaks_any _).mono ?_; rintro e w1 ⟨rfl, hb1⟩; have hs1 : w.heap.size + 1 ≤ w1.heap.size := (by have := hb1.size; simp at this; omega); have H31 := Lib.hid (H3.out.below hb1 H3.out.lt); have HBE1 := Lib.hid (HBE.out.trans (hb1.mono (by simp))); clear hb1)
    | refine wpList_loadB arrK rfl (.tmp 3) rfl H31.out HLK.out rfl ?_
    | (go_at_call 9; refine (new_any key HLK.out _).mono ?_; rintro e w2 ⟨g, rfl, hc2, hb2, hg2⟩; have HC2 := Lib.hid hc2; have HBE2 := Lib.hid (HBE1.out.trans (hb2.mono HBE1.out.size)); clear hc2 hb2)
    | (go_at_call 13; refine (stream_any g (keyed key) 7 A l cap l.length _ HC2.out (keyed_length key HLK.out) rfl ((HR.out.below HBE2.out).more HBE2.out.size) (by omega)).mono ?_; rintro e w4 ⟨v9, rfl, hown9, hb4⟩; obtain ⟨A9, c9, rfl, hr9, -⟩ := hown9.shape; rw [streamOf_length]; have HR9 := Lib.hid hr9; have HC4 := Lib.hid (HC2.out.below hb4 HC2.out.lt); have HBE4 := Lib.hid (HBE2.out.trans (hb4.mono HBE2.out.size)); clear hown9 hr9 hb4))
  have hqc9 : q ≤ c9 := by have := HR9.out.1; rw [streamOf_length] at this; omega
  have hqi9 : (q : Int) ≤ (c9 : Int) := by omega
  have hc9 : c9 ≤ 9223372036854775807 := HR9.out.2.1
  have HRD : Hid (RB w4 w4.heap.size A l cap) := (HR.out.below HBE4.out).more HBE4.out.size
  have hd4 := str_from byteT Try.underlying9 (w := w4.drew) HRD.out.drew (Nat.le_refl _)
  have ht4 := str_from byteT Try.underlying9 (w := w4.drew) (HR9.out.drew.head q) (Nat.le_refl _)
  rw [HTL2.out] at ht4
  clear hq hmk' hm0
  refine held_begin (by kernel_rfl) ?_
  refine held_take (i := 0) (d := some 28) (v := ?qv10_0) rfl rfl (by kernel_rfl) (fun _ _ _ h => h) ?qy10_0 ?_; case qy10_0 => (refine Or.inl ⟨rfl, fun wx hS => ?_⟩; go_simp; try with_reducible rfl)
  simp only [Act.put, List.setIfInBounds_toArray, List.set_cons_zero, List.set_cons_succ]
  refine held_take (i := 1) (d := some 29) (v := ?qv10_1) rfl rfl (by kernel_rfl) (fun _ _ _ h => h) ?qy10_1 ?_; case qy10_1 => (refine Or.inl ⟨rfl, fun wx hS => ?_⟩; go_simp; try with_reducible rfl)
  simp only [Act.put, List.setIfInBounds_toArray, List.set_cons_zero, List.set_cons_succ]
  refine held_take (i := 4) (d := some 32) (v := ?qv10_4) rfl rfl (by kernel_rfl) (fun _ _ _ h => h) ?qy10_4 ?_; case qy10_4 => (refine Or.inl ⟨rfl, fun wx hS => ?_⟩; go_simp; try with_reducible rfl)
  simp only [Act.put, List.setIfInBounds_toArray, List.set_cons_zero, List.set_cons_succ]
  refine held_take (i := 5) (d := some 33) (v := ?qv10_5) rfl rfl (by kernel_rfl) (fun _ _ _ h => h) ?qy10_5 ?_; case qy10_5 => (refine Or.inl ⟨rfl, fun wx hS => ?_⟩; go_simp; try with_reducible rfl)
  simp only [Act.put, List.setIfInBounds_toArray, List.set_cons_zero, List.set_cons_succ]
  refine held_one (i := 2) rfl (by kernel_rfl) rfl (fun K hK => ?_)
  go_simp
  refine (stream_any g (keyed key) 7 A9 (streamOf (keyed key) 7 l) c9 l.length _ HC4.out.drew (keyed_length key HLK.out) (streamOf_length _ _ _) (HR9.out.drew) (by omega)).mono ?_
  rw [HINV.out]
  rintro e w5 ⟨v5, rfl, hown5, hb5⟩
  obtain ⟨A5, c5, rfl, hr5, -⟩ := hown5.shape
  refine hK.out _ _ hb5 ?_
  have HB5 := Lib.hid hb5
  have hs5 := str_from byteT Try.underlying9 hr5 (Nat.le_refl _)
  have hd5 := fun wx (hx : From w5 wx) => hd4 wx (From.trans HB5.out hx)
  have ht5 := fun wx (hx : From w5 wx) => ht4 wx (From.trans HB5.out hx)
  clear hK K hb5 hown5 hr5 hd4 ht4
  refine held_take (i := 3) (d := some 31) (v := ?qv10_3) rfl rfl (by kernel_rfl) (fun _ _ _ h => h) ?qy10_3 ?_; case qy10_3 => (refine Or.inl ⟨rfl, fun wx hS => ?_⟩; go_simp; try with_reducible rfl)
  simp only [Act.put, List.setIfInBounds_toArray, List.set_cons_zero, List.set_cons_succ]
  refine held_take (i := 6) (d := some 34) (v := ?qv10_6) rfl rfl (by kernel_rfl) (fun _ _ _ h => h) ?qy10_6 ?_; case qy10_6 => (refine Or.inl ⟨rfl, fun wx hS => ?_⟩; go_simp; try with_reducible rfl)
  simp only [Act.put, List.setIfInBounds_toArray, List.set_cons_zero, List.set_cons_succ]
  refine held_take (i := 7) (d := some 35) (v := ?qv10_7) rfl rfl (by kernel_rfl) (fun _ _ _ h => h) ?qy10_7 ?_; case qy10_7 => (refine Or.inl ⟨rfl, fun wx hS => ?_⟩; go_simp; try with_reducible rfl)
  simp only [Act.put, List.setIfInBounds_toArray, List.set_cons_zero, List.set_cons_succ]
  first | refine held_skip (i := 8) (d := some 36) rfl rfl (by kernel_rfl) (fun _ _ _ h => h) rfl ?_ | (refine held_take (i := 8) (d := some 36) (v := ?qv10_8) rfl rfl (by kernel_rfl) (fun _ _ _ h => h) ?qy10_8 ?_; case qy10_8 => (refine Or.inl ⟨rfl, fun wx hS => ?_⟩; go_simp; try with_reducible rfl))
  simp only [Act.put, List.setIfInBounds_toArray, List.set_cons_zero, List.set_cons_succ]
  first | refine held_skip (i := 9) (d := some 37) rfl rfl (by kernel_rfl) (fun _ _ _ h => h) rfl ?_ | (refine held_take (i := 9) (d := some 37) (v := ?qv10_9) rfl rfl (by kernel_rfl) (fun _ _ _ h => h) ?qy10_9 ?_; case qy10_9 => (refine Or.inl ⟨rfl, fun wx hS => ?_⟩; go_simp; try with_reducible rfl))
  simp only [Act.put, List.setIfInBounds_toArray, List.set_cons_zero, List.set_cons_succ]
  first | refine held_skip (i := 10) (d := some 38) rfl rfl (by kernel_rfl) (fun _ _ _ h => h) rfl ?_ | (refine held_take (i := 10) (d := some 38) (v := ?qv10_10) rfl rfl (by kernel_rfl) (fun _ _ _ h => h) ?qy10_10 ?_; case qy10_10 => (refine Or.inl ⟨rfl, fun wx hS => ?_⟩; go_simp; try with_reducible rfl))
  simp only [Act.put, List.setIfInBounds_toArray, List.set_cons_zero, List.set_cons_succ]
  first | refine held_skip (i := 11) (d := some 39) rfl rfl (by kernel_rfl) (fun _ _ _ h => h) rfl ?_ | (refine held_take (i := 11) (d := some 39) (v := ?qv10_11) rfl rfl (by kernel_rfl) (fun _ _ _ h => h) ?qy10_11 ?_; case qy10_11 => (refine Or.inl ⟨rfl, fun wx hS => ?_⟩; go_simp; try with_reducible rfl))
  simp only [Act.put, List.setIfInBounds_toArray, List.set_cons_zero, List.set_cons_succ]
  first | refine held_skip (i := 14) (d := some 42) rfl rfl (by kernel_rfl) (fun _ _ _ h => h) rfl ?_ | (refine held_take (i := 14) (d := some 42) (v := ?qv10_14) rfl rfl (by kernel_rfl) (fun _ _ _ h => h) ?qy10_14 ?_; case qy10_14 => (refine Or.inl ⟨rfl, fun wx hS => ?_⟩; go_simp; try with_reducible rfl))
  simp only [Act.put, List.setIfInBounds_toArray, List.set_cons_zero, List.set_cons_succ]
  first | refine held_skip (i := 15) (d := some 43) rfl rfl (by kernel_rfl) (fun _ _ _ h => h) rfl ?_ | (refine held_take (i := 15) (d := some 43) (v := ?qv10_15) rfl rfl (by kernel_rfl) (fun _ _ _ h => h) ?qy10_15 ?_; case qy10_15 => (refine Or.inl ⟨rfl, fun wx hS => ?_⟩; go_simp; try with_reducible rfl))
  simp only [Act.put, List.setIfInBounds_toArray, List.set_cons_zero, List.set_cons_succ]
  first | refine held_skip (i := 16) (d := some 44) rfl rfl (by kernel_rfl) (fun _ _ _ h => h) rfl ?_ | (refine held_take (i := 16) (d := some 44) (v := ?qv10_16) rfl rfl (by kernel_rfl) (fun _ _ _ h => h) ?qy10_16 ?_; case qy10_16 => (refine Or.inl ⟨rfl, fun wx hS => ?_⟩; go_simp; try with_reducible rfl))
  simp only [Act.put, List.setIfInBounds_toArray, List.set_cons_zero, List.set_cons_succ]
  first | refine held_skip (i := 17) (d := some 45) rfl rfl (by kernel_rfl) (fun _ _ _ h => h) rfl ?_ | (refine held_take (i := 17) (d := some 45) (v := ?qv10_17) rfl rfl (by kernel_rfl) (fun _ _ _ h => h) ?qy10_17 ?_; case qy10_17 => (refine Or.inl ⟨rfl, fun wx hS => ?_⟩; go_simp; try with_reducible rfl))
  simp only [Act.put, List.setIfInBounds_toArray, List.set_cons_zero, List.set_cons_succ]
  refine held_one (i := 12) rfl (by kernel_rfl) rfl (fun K hK => ?_)
  go_simp
  refine (stream_any g (keyed key) 7 A (l.take q) cap q _ (HC4.out.drew.below HB5.out HC4.out.lt) (keyed_length key HLK.out) HTL.out ((HRD.out.drew.below HB5.out |>.more HB5.out.size).head q) (by omega)).mono ?_
  rw [HTK.out]
  rintro e w6 ⟨v6, rfl, hown6, hb6⟩
  obtain ⟨A6, c6, rfl, hr6, -⟩ := hown6.shape
  refine hK.out _ _ hb6 ?_
  have HB6 := Lib.hid (From.trans HB5.out hb6)
  have hs6 := str_from byteT Try.underlying9 hr6 (Nat.le_refl _)
  rw [HTL2.out] at hs6 ⊢
  have ht6 := fun wx (hx : From w6 wx) => ht5 wx (From.trans hb6 hx)
  clear hK K hb6 hown6 hr6 ht5
  first | refine held_skip (i := 13) (d := some 41) rfl rfl (by kernel_rfl) (fun _ _ _ h => h) rfl ?_ | (refine held_take (i := 13) (d := some 41) (v := ?qv10_13) rfl rfl (by kernel_rfl) (fun _ _ _ h => h) ?qy10_13 ?_; case qy10_13 => (refine Or.inl ⟨rfl, fun wx hS => ?_⟩; go_simp; try with_reducible rfl))
  simp only [Act.put, List.setIfInBounds_toArray, List.set_cons_zero, List.set_cons_succ]
  first | refine held_skip (i := 18) (d := some 46) rfl rfl (by kernel_rfl) (fun _ _ _ h => h) rfl ?_ | (refine held_take (i := 18) (d := some 46) (v := ?qv10_18) rfl rfl (by kernel_rfl) (fun _ _ _ h => h) ?qy10_18 ?_; case qy10_18 => (refine Or.inl ⟨rfl, fun wx hS => ?_⟩; go_simp; try with_reducible rfl))
  simp only [Act.put, List.setIfInBounds_toArray, List.set_cons_zero, List.set_cons_succ]
  refine held_take (i := 19) (d := some 47) (v := ?qv10_19) rfl rfl (by kernel_rfl) (fun _ _ _ h => h) ?qy10_19 ?_; case qy10_19 => (refine Or.inl ⟨rfl, fun wx hS => ?_⟩; go_simp; try with_reducible rfl)
  simp only [Act.put, List.setIfInBounds_toArray, List.set_cons_zero, List.set_cons_succ]
  refine held_take (i := 20) (d := some 6) (v := ?qv10_20) rfl rfl (by kernel_rfl) (fun _ _ _ h => h) ?qy10_20 ?_; case qy10_20 => (refine Or.inl ⟨rfl, fun wx hS => ?_⟩; go_simp; try with_reducible rfl)
  simp only [Act.put, List.setIfInBounds_toArray, List.set_cons_zero, List.set_cons_succ]
  refine held_end (by kernel_rfl) ?_ _
  go_wp2
  go_ret
  exact ⟨rfl, HBE4.out.trans ((From.undrew HB6.out).mono HBE4.out.size)⟩
end Go.Proofs.Ytbpkaaajcimcgab
