/- The walk of AesBlocks. -/
import Derived.Test.YtbpkaaajcimcgabRBl
namespace Go.Proofs.Ytbpkaaajcimcgab
open Go.RowKit

set_option maxRecDepth 10000 in
set_option maxHeartbeats 2000000 in
theorem walk_AesBlocks (w : World) (key : List UInt8) (hk : key.length = 16) (inp : List UInt8) (hi : inp.length = 16) :
    Calls Try.prog 3 #[.agg (bcells key).toArray, .agg (bcells inp).toArray] w fun e w' => e = .returned (.bool true) ∧ Below w.heap.size w w' := by
  have he := run_binEqB arr16 u8Size Try.underlying5 (blockOf_length (keyed key) inp) (blockOf_length (keyed key) inp)
  rw [beq_self_eq_true] at he
  have HE := Lib.hid he
  have HLK := Lib.hid hk
  have HLI := Lib.hid hi
  have HBL := Lib.hid (blockOf_length (keyed key) inp)
  have hgt : Try.prog.eqGuardType Try.prog.depth 22 = false := by kernel_rfl
  have h3 := BB.alloc (BB.new w 23 key) (.cells (bcells inp).toArray 22)
  have h4 : BB ((w.alloc (.cells (bcells key).toArray 23)).alloc (.cells (bcells inp).toArray 22)) (w.heap.size + 1) 22 inp := heap_alloc2_new _ _ _
  have H3 := Lib.hid h3
  have H4 := Lib.hid h4
  have HBE := Lib.hid (((Below.refl w.heap.size w).alloc (Nat.le_refl _) (.cells (bcells key).toArray 23)).alloc (by simp) (.cells (bcells inp).toArray 22))
  clear he hk hi h3 h4
  go_enter Try.func3, Try.ntmps3
  go_wp2_with (first
    | (go_at_call 8; refine (speaks_any _).mono ?_; rintro e w1 ⟨rfl, hb1⟩; have hs1 : w.heap.size + 2 ≤ w1.heap.size := (by have := hb1.size; simp at this; omega); have H31 := Lib.hid (H3.out.below hb1 H3.out.lt); have H41 := Lib.hid (H4.out.below hb1 H4.out.lt); have HBE1 := Lib.hid (HBE.out.trans (hb1.mono (by simp; omega))); clear hb1)
    | refine wpList_loadB arrK rfl (.tmp 2) rfl H31.out HLK.out rfl ?_
    | (go_at_call 9; refine (new_any key HLK.out _).mono ?_; rintro e w2 ⟨g, rfl, hc2, hb2, hg2⟩; have HC2 := Lib.hid hc2; have HK2 := Lib.hid (H31.out.below hb2 H31.out.lt); have HI2 := Lib.hid (H41.out.below hb2 H41.out.lt); have HBE2 := Lib.hid (HBE1.out.trans (hb2.mono HBE1.out.size)); clear hc2 hb2)
    | refine wpList_loadB arr16 rfl (.tmp 3) rfl HI2.out HLI.out rfl ?_
    | (go_at_call 10; refine (block_any g (keyed key) inp _ HC2.out (keyed_length key HLK.out) HLI.out).mono ?_; rintro e w4 ⟨rfl, hb4⟩; have HC4 := Lib.hid (HC2.out.below hb4 HC2.out.lt); have HK4 := Lib.hid (HK2.out.below hb4 HK2.out.lt); have HI4 := Lib.hid (HI2.out.below hb4 HI2.out.lt); have HBE4 := Lib.hid (HBE2.out.trans (hb4.mono HBE2.out.size)); clear hb4)
    | (refine wpList_storeB arr16 rfl (.tmp 6) (.tmp 15) rfl (BB.new w4 22 (List.replicate 16 0)) rfl HBL.out rfl rfl ?_; intro w5 h5 hg5; have HF5 := Lib.hid h5; have HC5 := Lib.hid ((HC4.out.alloc _).grown hg5 (by have := HC4.out.lt; omega)); have HK5 := Lib.hid ((HK4.out.alloc _).grown hg5 (by have := HK4.out.lt; omega)); have HI5 := Lib.hid ((HI4.out.alloc _).grown hg5 (by have := HI4.out.lt; omega)); have HBE5 := Lib.hid ((HBE4.out.alloc HBE4.out.size _).trans (below_of_grown hg5 HBE4.out.size (by have := HBE4.out.size; simp; omega))); clear h5 hg5))
  refine held_begin (by kernel_rfl) ?_
  refine held_take (i := 0) (d := some 16) (v := _) rfl rfl (by kernel_rfl) (fun _ _ _ h => h) (yields_loadB arr16 (.tmp 6) rfl rfl (fun wx (hx : From w5.drew wx) => HF5.out.drew.below hx HF5.out.lt) HBL.out rfl) ?_
  simp only [Act.put, List.setIfInBounds_toArray, List.set_cons_zero, List.set_cons_succ]
  refine held_take (i := 1) (d := some 17) (v := _) rfl rfl (by kernel_rfl) (fun _ _ _ h => h) (yields_loadB arrK (.tmp 2) rfl rfl (fun wx (hx : From w5.drew wx) => HK5.out.drew.below hx HK5.out.lt) HLK.out rfl) ?_
  simp only [Act.put, List.setIfInBounds_toArray, List.set_cons_zero, List.set_cons_succ]
  refine held_take (i := 3) (d := some 19) (v := _) rfl rfl (by kernel_rfl) (fun _ _ _ h => h) (yields_loadB arr16 (.tmp 3) rfl rfl (fun wx (hx : From w5.drew wx) => HI5.out.drew.below hx HI5.out.lt) HLI.out rfl) ?_
  simp only [Act.put, List.setIfInBounds_toArray, List.set_cons_zero, List.set_cons_succ]
  refine held_one (i := 2) rfl (by kernel_rfl) rfl (fun K hK => ?_)
  go_simp
  refine (refNew_any key HLK.out _).mono ?_
  rintro e w6 ⟨g6, rfl, hc6, hb6, hg6⟩
  refine hK.out _ _ hb6 ?_
  have HC6 := Lib.hid hc6
  have HB6 := Lib.hid hb6
  clear hK K hb6 hc6
  refine held_one (i := 4) rfl (by kernel_rfl) rfl (fun K hK => ?_)
  go_simp
  refine (refBlock_any g6 (keyed key) inp _ HC6.out (keyed_length key HLK.out) HLI.out).mono ?_
  rintro e w7 ⟨rfl, hb7⟩
  refine hK.out _ _ hb7 ?_
  have HB7 := Lib.hid (From.trans HB6.out hb7)
  clear hK K hb7
  refine held_take (i := 5) (d := some 21) (v := _) rfl rfl (by kernel_rfl) (fun _ _ _ h => h) (yields_eqB hgt (.tmp 16) (.tmp 20) rfl rfl rfl rfl HE.out) ?_
  simp only [Act.put, List.setIfInBounds_toArray, List.set_cons_zero, List.set_cons_succ]
  refine held_take (i := 6) (d := some 22) (v := ?qv7_6) rfl rfl (by kernel_rfl) (fun _ _ _ h => h) ?qy7_6 ?_; case qy7_6 => (refine Or.inl ⟨rfl, fun wx hS => ?_⟩; go_simp; try with_reducible rfl)
  simp only [Act.put, List.setIfInBounds_toArray, List.set_cons_zero, List.set_cons_succ]
  first | refine held_skip (i := 7) (d := some 23) rfl rfl (by kernel_rfl) (fun _ _ _ h => h) rfl ?_ | (refine held_take (i := 7) (d := some 23) (v := ?qv7_7) rfl rfl (by kernel_rfl) (fun _ _ _ h => h) ?qy7_7 ?_; case qy7_7 => (refine Or.inl ⟨rfl, fun wx hS => ?_⟩; go_simp; try with_reducible rfl))
  simp only [Act.put, List.setIfInBounds_toArray, List.set_cons_zero, List.set_cons_succ]
  refine held_take (i := 8) (d := some 24) (v := _) rfl rfl (by kernel_rfl) (fun _ _ _ h => h) (yields_loadB arr16 (.tmp 3) rfl rfl (fun wx (hx : From w7 wx) => HI5.out.drew.below (From.trans HB7.out hx) HI5.out.lt) HLI.out rfl) ?_
  simp only [Act.put, List.setIfInBounds_toArray, List.set_cons_zero, List.set_cons_succ]
  refine held_take (i := 10) (d := some 26) (v := _) rfl rfl (by kernel_rfl) (fun _ _ _ h => h) (yields_loadB arr16 (.tmp 6) rfl rfl (fun wx (hx : From w7 wx) => HF5.out.drew.below (From.trans HB7.out hx) HF5.out.lt) HBL.out rfl) ?_
  simp only [Act.put, List.setIfInBounds_toArray, List.set_cons_zero, List.set_cons_succ]
  refine held_one (i := 9) rfl (by kernel_rfl) rfl (fun K hK => ?_)
  go_simp
  refine (block_any g (keyed key) inp _ (HC5.out.drew.below HB7.out HC5.out.lt) (keyed_length key HLK.out) HLI.out).mono ?_
  rintro e w8 ⟨rfl, hb8⟩
  refine hK.out _ _ hb8 ?_
  have HB8 := Lib.hid (From.trans HB7.out hb8)
  clear hK K hb8
  refine held_take (i := 11) (d := some 27) (v := _) rfl rfl (by kernel_rfl) (fun _ _ _ h => h) (yields_eqB hgt (.tmp 25) (.tmp 26) rfl rfl rfl rfl HE.out) ?_
  simp only [Act.put, List.setIfInBounds_toArray, List.set_cons_zero, List.set_cons_succ]
  refine held_take (i := 12) (d := some 28) (v := ?qv7_12) rfl rfl (by kernel_rfl) (fun _ _ _ h => h) ?qy7_12 ?_; case qy7_12 => (refine Or.inl ⟨rfl, fun wx hS => ?_⟩; go_simp; try with_reducible rfl)
  simp only [Act.put, List.setIfInBounds_toArray, List.set_cons_zero, List.set_cons_succ]
  refine held_take (i := 13) (d := some 4) (v := ?qv7_13) rfl rfl (by kernel_rfl) (fun _ _ _ h => h) ?qy7_13 ?_; case qy7_13 => (refine Or.inl ⟨rfl, fun wx hS => ?_⟩; go_simp; try with_reducible rfl)
  simp only [Act.put, List.setIfInBounds_toArray, List.set_cons_zero, List.set_cons_succ]
  refine held_end (by kernel_rfl) ?_ _
  go_wp2
  go_ret
  exact ⟨rfl, HBE5.out.trans ((From.undrew HB8.out).mono HBE5.out.size)⟩
end Go.Proofs.Ytbpkaaajcimcgab
