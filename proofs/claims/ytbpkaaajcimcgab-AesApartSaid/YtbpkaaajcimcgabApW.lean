/- The walk of AesApart. -/
import Derived.Test.YtbpkaaajcimcgabInj
namespace Go.Proofs.Ytbpkaaajcimcgab
open Go.RowKit

theorem below_ofdrew {w x : World} (h : From w.drew x) : Below w.heap.size w x := From.undrew h

set_option maxRecDepth 10000 in
set_option maxHeartbeats 1000000 in
theorem walk_AesApart (w : World) (key : List UInt8) (hk : key.length = 16) (a : List UInt8) (ha : a.length = 16) (b : List UInt8) (hb : b.length = 16) :
    Calls Try.prog 6 #[.agg (bcells key).toArray, .agg (bcells a).toArray, .agg (bcells b).toArray] w fun e w' => e = .returned (.bool true) ∧ Below w.heap.size w w' := by
  have hE := block_inj key a b ha hb
  have he1 := run_binEqB arr16 u8Size Try.underlying5 (blockOf_length (keyed key) a) (blockOf_length (keyed key) b)
  have he2 := run_binEqB arr16 u8Size Try.underlying5 ha hb
  rw [hE] at he1
  obtain ⟨c, hc⟩ : ∃ c, c = (a == b) := ⟨_, rfl⟩
  rw [← hc] at he1 he2
  have HE1 := Lib.hid he1
  have HE2 := Lib.hid he2
  have HLK := Lib.hid hk
  have HLA := Lib.hid ha
  have HLB := Lib.hid hb
  have hgt : Try.prog.eqGuardType Try.prog.depth 22 = false := by kernel_rfl
  have h3 := BB.alloc (BB.alloc (BB.new w 23 key) (.cells (bcells a).toArray 22)) (.cells (bcells b).toArray 22)
  have h4 : BB (((w.alloc (.cells (bcells key).toArray 23)).alloc (.cells (bcells a).toArray 22)).alloc (.cells (bcells b).toArray 22)) (w.heap.size + 1) 22 a := BB.alloc (heap_alloc2_new _ _ _) _
  have h5 : BB (((w.alloc (.cells (bcells key).toArray 23)).alloc (.cells (bcells a).toArray 22)).alloc (.cells (bcells b).toArray 22)) (w.heap.size + 2) 22 b := heap_alloc_at2 _ _ _ _
  have H3 := Lib.hid h3
  have H4 := Lib.hid h4
  have H5 := Lib.hid h5
  have HBE := Lib.hid ((((Below.refl w.heap.size w).alloc (Nat.le_refl _) (.cells (bcells key).toArray 23)).alloc (by simp) (.cells (bcells a).toArray 22)).alloc (by simp; omega) (.cells (bcells b).toArray 22))
  clear hE he1 he2 hc hk ha hb h3 h4 h5
  go_enter Try.func6, Try.ntmps6
  go_wp2_with (first
    | (go_at_call 8; refine (speaks_any _).mono ?_; rintro e w1 ⟨rfl, hb1⟩; have hs1 : w.heap.size + 3 ≤ w1.heap.size := (by have := hb1.size; simp at this; omega); have H31 := Lib.hid (H3.out.below hb1 H3.out.lt); have H41 := Lib.hid (H4.out.below hb1 H4.out.lt); have H51 := Lib.hid (H5.out.below hb1 H5.out.lt); have HBE1 := Lib.hid (HBE.out.trans (hb1.mono (by simp; omega))); clear hb1)
    | refine wpList_loadB arrK rfl (.tmp 3) rfl H31.out HLK.out rfl ?_
    | (go_at_call 9; refine (new_any key HLK.out _).mono ?_; rintro e w2 ⟨g, rfl, hc2, hb2, hg2⟩; have HC2 := Lib.hid hc2; have HA2 := Lib.hid (H41.out.below hb2 H41.out.lt); have HB2 := Lib.hid (H51.out.below hb2 H51.out.lt); have HBE2 := Lib.hid (HBE1.out.trans (hb2.mono HBE1.out.size)); clear hc2 hb2))
  refine held_begin (by kernel_rfl) ?_
  refine held_take (i := 0) (d := some 14) (v := ?qv6_0) rfl rfl (by kernel_rfl) (fun _ _ _ h => h) ?qy6_0 ?_; case qy6_0 => (refine Or.inl ⟨rfl, fun wx hS => ?_⟩; go_simp; try with_reducible rfl)
  simp only [Act.put, List.setIfInBounds_toArray, List.set_cons_zero, List.set_cons_succ]
  refine held_take (i := 1) (d := some 15) (v := _) rfl rfl (by kernel_rfl) (fun _ _ _ h => h) (yields_loadB arr16 (.tmp 4) rfl rfl (fun wx (hx : From w2.drew wx) => HA2.out.drew.below hx HA2.out.lt) HLA.out rfl) ?_
  simp only [Act.put, List.setIfInBounds_toArray, List.set_cons_zero, List.set_cons_succ]
  refine held_take (i := 3) (d := some 17) (v := ?qv6_3) rfl rfl (by kernel_rfl) (fun _ _ _ h => h) ?qy6_3 ?_; case qy6_3 => (refine Or.inl ⟨rfl, fun wx hS => ?_⟩; go_simp; try with_reducible rfl)
  simp only [Act.put, List.setIfInBounds_toArray, List.set_cons_zero, List.set_cons_succ]
  refine held_take (i := 4) (d := some 18) (v := _) rfl rfl (by kernel_rfl) (fun _ _ _ h => h) (yields_loadB arr16 (.tmp 5) rfl rfl (fun wx (hx : From w2.drew wx) => HB2.out.drew.below hx HB2.out.lt) HLB.out rfl) ?_
  simp only [Act.put, List.setIfInBounds_toArray, List.set_cons_zero, List.set_cons_succ]
  refine held_take (i := 7) (d := some 21) (v := _) rfl rfl (by kernel_rfl) (fun _ _ _ h => h) (yields_loadB arr16 (.tmp 4) rfl rfl (fun wx (hx : From w2.drew wx) => HA2.out.drew.below hx HA2.out.lt) HLA.out rfl) ?_
  simp only [Act.put, List.setIfInBounds_toArray, List.set_cons_zero, List.set_cons_succ]
  refine held_take (i := 8) (d := some 22) (v := _) rfl rfl (by kernel_rfl) (fun _ _ _ h => h) (yields_loadB arr16 (.tmp 5) rfl rfl (fun wx (hx : From w2.drew wx) => HB2.out.drew.below hx HB2.out.lt) HLB.out rfl) ?_
  simp only [Act.put, List.setIfInBounds_toArray, List.set_cons_zero, List.set_cons_succ]
  refine held_take (i := 9) (d := some 23) (v := _) rfl rfl (by kernel_rfl) (fun _ _ _ h => h) (yields_eqB hgt (.tmp 21) (.tmp 22) rfl rfl rfl rfl HE2.out) ?_
  simp only [Act.put, List.setIfInBounds_toArray, List.set_cons_zero, List.set_cons_succ]
  refine held_one (i := 2) rfl (by kernel_rfl) rfl (fun K hK => ?_)
  go_simp
  refine (block_any g (keyed key) a _ HC2.out.drew (keyed_length key HLK.out) HLA.out).mono ?_
  rintro e w4 ⟨rfl, hb4⟩
  refine hK.out _ _ hb4 ?_
  have HB4 := Lib.hid hb4
  clear hK K hb4
  refine held_one (i := 5) rfl (by kernel_rfl) rfl (fun K hK => ?_)
  go_simp
  refine (block_any g (keyed key) b _ (HC2.out.drew.below HB4.out HC2.out.lt) (keyed_length key HLK.out) HLB.out).mono ?_
  rintro e w5 ⟨rfl, hb5⟩
  refine hK.out _ _ hb5 ?_
  have HB5 := Lib.hid hb5
  clear hK K hb5
  refine held_take (i := 6) (d := some 20) (v := _) rfl rfl (by kernel_rfl) (fun _ _ _ h => h) (yields_eqB hgt (.tmp 16) (.tmp 19) rfl rfl rfl rfl HE1.out) ?_
  simp only [Act.put, List.setIfInBounds_toArray, List.set_cons_zero, List.set_cons_succ]
  refine held_take (i := 10) (d := some 24) (v := ?qv6_10) rfl rfl (by kernel_rfl) (fun _ _ _ h => h) ?qy6_10 ?_; case qy6_10 => (refine Or.inl ⟨rfl, fun wx hS => ?_⟩; go_simp; try with_reducible rfl)
  simp only [Act.put, List.setIfInBounds_toArray, List.set_cons_zero, List.set_cons_succ]
  refine held_take (i := 11) (d := some 6) (v := ?qv6_11) rfl rfl (by kernel_rfl) (fun _ _ _ h => h) ?qy6_11 ?_; case qy6_11 => (refine Or.inl ⟨rfl, fun wx hS => ?_⟩; go_simp; try with_reducible rfl)
  simp only [Act.put, List.setIfInBounds_toArray, List.set_cons_zero, List.set_cons_succ]
  refine held_end (by kernel_rfl) ?_ _
  go_wp2
  go_ret
  exact ⟨rfl, HBE2.out.trans ((below_ofdrew (From.trans HB4.out HB5.out)).mono HBE2.out.size)⟩
end Go.Proofs.Ytbpkaaajcimcgab
