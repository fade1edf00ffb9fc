/- The walk of AesStreams. -/
import Derived.Test.YtbpkaaajcimcgabRSt
namespace Go.Proofs.Ytbpkaaajcimcgab
open Go.RowKit

set_option maxRecDepth 10000 in
set_option maxHeartbeats 2000000 in
theorem walk_AesStreams (w : World) (key : List UInt8) (hk : key.length = 16) (x : Int) (wx0 : (Lit.int .u64 x).wf = true) (A : Option Addr) (l : List UInt8) (cap : Nat) (h : RB w w.heap.size A l cap) :
    Calls Try.prog 4 #[.agg (bcells key).toArray, .int .u64 x, .slice A l.length cap] w fun e w' => e = .returned (.bool true) ∧ Below w.heap.size w w' := by
  obtain ⟨hx1, hx2⟩ := bounds_u64 wx0
  obtain ⟨nonce, rfl⟩ : ∃ n : Nat, x = (n : Int) := ⟨x.toNat, by omega⟩
  have hno : nonce < 18446744073709551616 := by omega
  clear hx1 hx2 wx0
  have hl : l.length ≤ 9223372036854775807 := Nat.le_trans h.1 h.2.1
  have HLK := Lib.hid hk
  have HD := Lib.hid h
  have h3 := BB.new w 23 key
  have H3 := Lib.hid h3
  have HBE := Lib.hid ((Below.refl w.heap.size w).alloc (Nat.le_refl _) (.cells (bcells key).toArray 23))
  have HNO := Lib.hid hno
  clear hk h h3 hno
  by_cases hout : 300 < l.length
  · have ho : (300 : Int) < (l.length : Int) := by omega
    go_enter Try.func4, Try.ntmps4
    go_wp2_with (go_at_call 8; refine (speaks_any _).mono ?_; rintro e w1 ⟨rfl, hb1⟩)
    go_ret
    exact ⟨rfl, HBE.out.trans (hb1.mono (by simp))⟩
  have ho : ¬ (300 : Int) < (l.length : Int) := by omega
  go_enter Try.func4, Try.ntmps4
  go_wp2_with (first
    | (go_at_call 8; refine (speaks_any _).mono ?_; rintro e w1 ⟨rfl, hb1⟩; have hs1 : w.heap.size + 1 ≤ w1.heap.size := (by have := hb1.size; simp at this; omega); have H31 := Lib.hid (H3.out.below hb1 H3.out.lt); have HBE1 := Lib.hid (HBE.out.trans (hb1.mono (by simp))); clear hb1)
    | refine wpList_loadB arrK rfl (.tmp 3) rfl H31.out HLK.out rfl ?_
    | (go_at_call 9; refine (new_any key HLK.out _).mono ?_; rintro e w2 ⟨g, rfl, hc2, hb2, hg2⟩; have HC2 := Lib.hid hc2; have HK2 := Lib.hid (H31.out.below hb2 H31.out.lt); have HBE2 := Lib.hid (HBE1.out.trans (hb2.mono HBE1.out.size)); clear hc2 hb2)
    | (at_builtin; refine wpList_appB byteT rfl (.tmp 18) (.tmp 19) rfl (OwnB.new0 _ w2.heap.size _ (Nat.le_refl _)) (HD.out.below (HBE2.out.alloc HBE2.out.size _)) rfl rfl (by simp; omega) (by simp) ?_; intro v3 w3 hown3 hg3 _ _; rw [List.nil_append] at hown3; have hb3 : Below w2.heap.size w2 w3 := Below.grown ((Below.refl _ _).alloc (Nat.le_refl _) _) hg3 (by simp) (fun k hk => by simp [Value.ownBlock] at hk; omega); obtain ⟨A2, c2, rfl, hr3, -⟩ := hown3.shape; have HI3 := Lib.hid hr3; have HC3 := Lib.hid (HC2.out.below hb3 HC2.out.lt); have HK3 := Lib.hid (HK2.out.below hb3 HK2.out.lt); have HBE3 := Lib.hid (HBE2.out.trans (hb3.mono HBE2.out.size)); clear hown3 hr3 hg3 hb3))
  have HD3 : Hid (RB w3 w3.heap.size A l cap) := (HD.out.below HBE3.out).more HBE3.out.size
  have hno := Lib.hid HNO.out
  refine held_begin (by kernel_rfl) ?_
  refine held_take (i := 0) (d := some 21) (v := ?qv9_0) rfl rfl (by kernel_rfl) (fun _ _ _ h => h) ?qy9_0 ?_; case qy9_0 => (refine Or.inl ⟨rfl, fun wx hS => ?_⟩; go_simp; try with_reducible rfl)
  simp only [Act.put, List.setIfInBounds_toArray, List.set_cons_zero, List.set_cons_succ]
  refine held_take (i := 1) (d := some 22) (v := ?qv9_1) rfl rfl (by kernel_rfl) (fun _ _ _ h => h) ?qy9_1 ?_; case qy9_1 => (refine Or.inl ⟨rfl, fun wx hS => ?_⟩; go_simp; try with_reducible rfl)
  simp only [Act.put, List.setIfInBounds_toArray, List.set_cons_zero, List.set_cons_succ]
  refine held_take (i := 2) (d := some 23) (v := ?qv9_2) rfl rfl (by kernel_rfl) (fun _ _ _ h => h) ?qy9_2 ?_; case qy9_2 => (refine Or.inl ⟨rfl, fun wx hS => ?_⟩; go_simp; try with_reducible rfl)
  simp only [Act.put, List.setIfInBounds_toArray, List.set_cons_zero, List.set_cons_succ]
  refine held_take (i := 5) (d := some 26) (v := _) rfl rfl (by kernel_rfl) (fun _ _ _ h => h) (yields_loadB arrK (.tmp 3) rfl rfl (fun wx (hx : From w3.drew wx) => HK3.out.drew.below hx HK3.out.lt) HLK.out rfl) ?_
  simp only [Act.put, List.setIfInBounds_toArray, List.set_cons_zero, List.set_cons_succ]
  refine held_take (i := 7) (d := some 28) (v := ?qv9_7) rfl rfl (by kernel_rfl) (fun _ _ _ h => h) ?qy9_7 ?_; case qy9_7 => (refine Or.inl ⟨rfl, fun wx hS => ?_⟩; go_simp; try with_reducible rfl)
  simp only [Act.put, List.setIfInBounds_toArray, List.set_cons_zero, List.set_cons_succ]
  refine held_take (i := 8) (d := some 29) (v := ?qv9_8) rfl rfl (by kernel_rfl) (fun _ _ _ h => h) ?qy9_8 ?_; case qy9_8 => (refine Or.inl ⟨rfl, fun wx hS => ?_⟩; go_simp; try with_reducible rfl)
  simp only [Act.put, List.setIfInBounds_toArray, List.set_cons_zero, List.set_cons_succ]
  refine held_one (i := 3) rfl (by kernel_rfl) rfl (fun K hK => ?_)
  go_simp
  refine (stream_any g (keyed key) nonce A2 l c2 l.length _ HC3.out.drew (keyed_length key HLK.out) rfl HI3.out.drew (by omega)).mono ?_
  rintro e w5 ⟨v5, rfl, hown5, hb5⟩
  obtain ⟨A5, c5, rfl, hr5, -⟩ := hown5.shape
  refine hK.out _ _ hb5 ?_
  have HB5 := Lib.hid hb5
  have hs5 := str_from byteT Try.underlying9 hr5 (Nat.le_refl _)
  rw [streamOf_length] at hs5 ⊢
  clear hK K hb5 hown5 hr5
  refine held_take (i := 4) (d := some 25) (v := ?qv9_4) rfl rfl (by kernel_rfl) (fun _ _ _ h => h) ?qy9_4 ?_; case qy9_4 => (refine Or.inl ⟨rfl, fun wx hS => ?_⟩; go_simp; try with_reducible rfl)
  simp only [Act.put, List.setIfInBounds_toArray, List.set_cons_zero, List.set_cons_succ]
  refine held_one (i := 6) rfl (by kernel_rfl) rfl (fun K hK => ?_)
  clear hs5
  go_simp
  refine (refNew_any key HLK.out _).mono ?_
  rintro e w6 ⟨g6, rfl, hc6, hb6, hg6⟩
  refine hK.out _ _ hb6 ?_
  have HC6 := Lib.hid hc6
  have HB6 := Lib.hid (From.trans HB5.out hb6)
  clear hK K hb6 hc6
  refine held_one (i := 9) rfl (by kernel_rfl) rfl (fun K hK => ?_)
  go_simp
  refine (refStream_any g6 (keyed key) nonce A l cap l.length _ HC6.out (keyed_length key HLK.out) rfl ((HD3.out.drew.below HB6.out).more HB6.out.size) (by omega) hno.out).mono ?_
  rintro e w7 ⟨v7, rfl, hown7, hb7⟩
  obtain ⟨A7, c7, rfl, hr7, -⟩ := hown7.shape
  refine hK.out _ _ hb7 ?_
  have HB7 := Lib.hid (From.trans HB6.out hb7)
  have hs7 := str_from byteT Try.underlying9 hr7 (Nat.le_refl _)
  have hi7 := str_from byteT Try.underlying9 (HI3.out.drew.below HB7.out) HB7.out.size
  have hd7 := str_from byteT Try.underlying9 (HD3.out.drew.below HB7.out) HB7.out.size
  rw [streamOf_length] at hs7 ⊢
  clear hK K hb7 hown7 hr7
  refine held_take (i := 10) (d := some 31) (v := ?qv9_10) rfl rfl (by kernel_rfl) (fun _ _ _ h => h) ?qy9_10 ?_; case qy9_10 => (refine Or.inl ⟨rfl, fun wx hS => ?_⟩; go_simp; try with_reducible rfl)
  simp only [Act.put, List.setIfInBounds_toArray, List.set_cons_zero, List.set_cons_succ]
  refine held_take (i := 11) (d := some 32) (v := ?qv9_11) rfl rfl (by kernel_rfl) (fun _ _ _ h => h) ?qy9_11 ?_; case qy9_11 => (refine Or.inl ⟨rfl, fun wx hS => ?_⟩; go_simp; try with_reducible rfl)
  simp only [Act.put, List.setIfInBounds_toArray, List.set_cons_zero, List.set_cons_succ]
  refine held_take (i := 12) (d := some 33) (v := ?qv9_12) rfl rfl (by kernel_rfl) (fun _ _ _ h => h) ?qy9_12 ?_; case qy9_12 => (refine Or.inl ⟨rfl, fun wx hS => ?_⟩; go_simp; try with_reducible rfl)
  simp only [Act.put, List.setIfInBounds_toArray, List.set_cons_zero, List.set_cons_succ]
  first | refine held_skip (i := 13) (d := some 34) rfl rfl (by kernel_rfl) (fun _ _ _ h => h) rfl ?_ | (refine held_take (i := 13) (d := some 34) (v := ?qv9_13) rfl rfl (by kernel_rfl) (fun _ _ _ h => h) ?qy9_13 ?_; case qy9_13 => (refine Or.inl ⟨rfl, fun wx hS => ?_⟩; go_simp; try with_reducible rfl))
  simp only [Act.put, List.setIfInBounds_toArray, List.set_cons_zero, List.set_cons_succ]
  first | refine held_skip (i := 14) (d := some 35) rfl rfl (by kernel_rfl) (fun _ _ _ h => h) rfl ?_ | (refine held_take (i := 14) (d := some 35) (v := ?qv9_14) rfl rfl (by kernel_rfl) (fun _ _ _ h => h) ?qy9_14 ?_; case qy9_14 => (refine Or.inl ⟨rfl, fun wx hS => ?_⟩; go_simp; try with_reducible rfl))
  simp only [Act.put, List.setIfInBounds_toArray, List.set_cons_zero, List.set_cons_succ]
  first | refine held_skip (i := 15) (d := some 36) rfl rfl (by kernel_rfl) (fun _ _ _ h => h) rfl ?_ | (refine held_take (i := 15) (d := some 36) (v := ?qv9_15) rfl rfl (by kernel_rfl) (fun _ _ _ h => h) ?qy9_15 ?_; case qy9_15 => (refine Or.inl ⟨rfl, fun wx hS => ?_⟩; go_simp; try with_reducible rfl))
  simp only [Act.put, List.setIfInBounds_toArray, List.set_cons_zero, List.set_cons_succ]
  first | refine held_skip (i := 16) (d := some 37) rfl rfl (by kernel_rfl) (fun _ _ _ h => h) rfl ?_ | (refine held_take (i := 16) (d := some 37) (v := ?qv9_16) rfl rfl (by kernel_rfl) (fun _ _ _ h => h) ?qy9_16 ?_; case qy9_16 => (refine Or.inl ⟨rfl, fun wx hS => ?_⟩; go_simp; try with_reducible rfl))
  simp only [Act.put, List.setIfInBounds_toArray, List.set_cons_zero, List.set_cons_succ]
  first | refine held_skip (i := 17) (d := some 38) rfl rfl (by kernel_rfl) (fun _ _ _ h => h) rfl ?_ | (refine held_take (i := 17) (d := some 38) (v := ?qv9_17) rfl rfl (by kernel_rfl) (fun _ _ _ h => h) ?qy9_17 ?_; case qy9_17 => (refine Or.inl ⟨rfl, fun wx hS => ?_⟩; go_simp; try with_reducible rfl))
  simp only [Act.put, List.setIfInBounds_toArray, List.set_cons_zero, List.set_cons_succ]
  refine held_take (i := 18) (d := some 39) (v := ?qv9_18) rfl rfl (by kernel_rfl) (fun _ _ _ h => h) ?qy9_18 ?_; case qy9_18 => (refine Or.inl ⟨rfl, fun wx hS => ?_⟩; go_simp; try with_reducible rfl)
  simp only [Act.put, List.setIfInBounds_toArray, List.set_cons_zero, List.set_cons_succ]
  refine held_take (i := 19) (d := some 6) (v := ?qv9_19) rfl rfl (by kernel_rfl) (fun _ _ _ h => h) ?qy9_19 ?_; case qy9_19 => (refine Or.inl ⟨rfl, fun wx hS => ?_⟩; go_simp; try with_reducible rfl)
  simp only [Act.put, List.setIfInBounds_toArray, List.set_cons_zero, List.set_cons_succ]
  refine held_end (by kernel_rfl) ?_ _
  go_wp2
  go_ret
  exact ⟨rfl, HBE3.out.trans ((From.undrew HB7.out).mono HBE3.out.size)⟩
end Go.Proofs.Ytbpkaaajcimcgab
