/- The walk of AesKeys. -/
import Derived.Test.YtbpkaaajcimcgabEqa
namespace Go.Proofs.Ytbpkaaajcimcgab
open Go.RowKit

set_option maxRecDepth 10000 in
set_option maxHeartbeats 2000000 in
theorem walk_AesKeys (w : World) (key : List UInt8) (hk : key.length = 16) (inp : List UInt8) (hi : inp.length = 16) (A : Option Addr) (l : List UInt8) (cap : Nat) (h : RB w w.heap.size A l cap) :
    Calls Try.prog 7 #[.agg (bcells key).toArray, .agg (bcells inp).toArray, .slice A l.length cap] w fun e w' => e = .returned (.bool true) ∧ Below w.heap.size w w' := by
  have hl : l.length ≤ 9223372036854775807 := Nat.le_trans h.1 h.2.1
  have he := run_binEqB arr16 u8Size Try.underlying5 (blockOf_length (keyed key) inp) (blockOf_length (keyed key) inp)
  rw [beq_self_eq_true] at he
  have HE := Lib.hid he
  have HLK := Lib.hid hk
  have HLI := Lib.hid hi
  have HR := Lib.hid h
  have hgt : Try.prog.eqGuardType Try.prog.depth 22 = false := by kernel_rfl
  have h3 := BB.alloc (BB.new w 23 key) (.cells (bcells inp).toArray 22)
  have h4 : BB ((w.alloc (.cells (bcells key).toArray 23)).alloc (.cells (bcells inp).toArray 22)) (w.heap.size + 1) 22 inp := heap_alloc2_new _ _ _
  have H3 := Lib.hid h3
  have H4 := Lib.hid h4
  have HBE := Lib.hid (((Below.refl w.heap.size w).alloc (Nat.le_refl _) (.cells (bcells key).toArray 23)).alloc (by simp) (.cells (bcells inp).toArray 22))
  obtain ⟨k0, hk0⟩ : ∃ u, key[0]? = some u := ⟨_, List.getElem?_eq_getElem (by omega)⟩
  have HK0 := Lib.hid hk0
  obtain ⟨z, hz⟩ : ∃ z : Int, bits .xor .u8 (k0.toNat : Int) 1 = z := ⟨_, rfl⟩
  have hB1 : ∀ (g : Nat) (W : World), BB W g 43 (keyed key) → Calls Try.prog 10 #[.pointer (some ⟨g, 0, none⟩), .agg #[.int .u8 1, .int .u8 0, .int .u8 0, .int .u8 0, .int .u8 0, .int .u8 0, .int .u8 0, .int .u8 0, .int .u8 0, .int .u8 0, .int .u8 0, .int .u8 0, .int .u8 0, .int .u8 0, .int .u8 0, .int .u8 0]] W fun e w' => e = .returned (.agg (bcells (blockOf (keyed key) [1, 0, 0, 0, 0, 0, 0, 0, 0, 0, 0, 0, 0, 0, 0, 0])).toArray) ∧ Below W.heap.size W w' :=
    fun g W hW => block_any g (keyed key) [1, 0, 0, 0, 0, 0, 0, 0, 0, 0, 0, 0, 0, 0, 0, 0] W hW (keyed_length key HLK.out) rfl
  have HB1C := Lib.hid hB1
  clear he hk hi h h3 h4 hk0 hB1
  by_cases hout : 300 < l.length
  · have ho : (300 : Int) < (l.length : Int) := by omega
    go_enter Try.func7, Try.ntmps7
    go_wp2_with (go_at_call 8; refine (speaks_any _).mono ?_; rintro e w1 ⟨rfl, hb1⟩)
    go_ret
    exact ⟨rfl, HBE.out.trans (hb1.mono (by simp; omega))⟩
  have ho : ¬ (300 : Int) < (l.length : Int) := by omega
  go_enter Try.func7, Try.ntmps7
  go_wp2_with (go_at_call 8; refine (speaks_any _).mono ?_; rintro e w1 ⟨rfl, hb1⟩; have hs1 : w.heap.size + 2 ≤ w1.heap.size := (by have := hb1.size; simp at this; omega); have H31 := Lib.hid (H3.out.below hb1 H3.out.lt); have H41 := Lib.hid (H4.out.below hb1 H4.out.lt); have HBE1 := Lib.hid (HBE.out.trans (hb1.mono (by simp; omega))); clear hb1)
  refine held_begin (by kernel_rfl) ?_
  refine held_take (i := 0) (d := some 14) (v := _) rfl rfl (by kernel_rfl) (fun _ _ _ h => h) (yields_loadB arrK (.tmp 3) rfl rfl (fun wx (hx : From w1.drew wx) => H31.out.drew.below hx H31.out.lt) HLK.out rfl) ?_
  simp only [Act.put, List.setIfInBounds_toArray, List.set_cons_zero, List.set_cons_succ]
  refine held_take (i := 2) (d := some 16) (v := _) rfl rfl (by kernel_rfl) (fun _ _ _ h => h) (yields_loadB arrK (.tmp 3) rfl rfl (fun wx (hx : From w1.drew wx) => H31.out.drew.below hx H31.out.lt) HLK.out rfl) ?_
  simp only [Act.put, List.setIfInBounds_toArray, List.set_cons_zero, List.set_cons_succ]
  refine held_one (i := 1) rfl (by kernel_rfl) rfl (fun K hK => ?_)
  go_simp
  refine (new_any key HLK.out _).mono ?_
  rintro e w2 ⟨g1, rfl, hc2, hb2, hg1⟩
  refine hK.out _ _ hb2 ?_
  have HC2 := Lib.hid hc2
  have HB2 := Lib.hid hb2
  clear hK K hb2 hc2
  refine held_one (i := 3) rfl (by kernel_rfl) rfl (fun K hK => ?_)
  go_simp
  refine (new_any key HLK.out _).mono ?_
  rintro e w3 ⟨g2, rfl, hc3, hb3, hg2⟩
  refine hK.out _ _ hb3 ?_
  have HC3 := Lib.hid hc3
  have HB3 := Lib.hid hb3
  clear hK K hb3 hc3
  refine held_take (i := 4) (d := some 7) (v := ?qv5_4) rfl rfl (by kernel_rfl) (fun _ _ _ h => h) ?qy5_4 ?_; case qy5_4 => (refine Or.inl ⟨rfl, fun wx hS => ?_⟩; go_simp; try with_reducible rfl)
  simp only [Act.put, List.setIfInBounds_toArray, List.set_cons_zero, List.set_cons_succ]
  refine held_take (i := 5) (d := some 8) (v := ?qv5_5) rfl rfl (by kernel_rfl) (fun _ _ _ h => h) ?qy5_5 ?_; case qy5_5 => (refine Or.inl ⟨rfl, fun wx hS => ?_⟩; go_simp; try with_reducible rfl)
  simp only [Act.put, List.setIfInBounds_toArray, List.set_cons_zero, List.set_cons_succ]
  refine held_end (by kernel_rfl) ?_ _
  have hs2 := HB2.out.size
  have hs3 := HB3.out.size
  have hs2' : w1.heap.size ≤ w2.heap.size := hs2
  have HT3 : Hid (From w1.drew w3) := From.trans HB2.out HB3.out
  have H33 := Lib.hid (H31.out.drew.below HT3.out H31.out.lt)
  have H43 := Lib.hid (H41.out.drew.below HT3.out H41.out.lt)
  have HC23 := Lib.hid (HC2.out.below HB3.out HC2.out.lt)
  have hg1' : w1.heap.size ≤ g1 := hg1
  have HBE3 := Lib.hid (HBE1.out.trans ((From.undrew HT3.out).mono HBE1.out.size))
  have c3 := H33.out.at_ HK0.out
  have f3 := H33.out.free 0
  clear hs2 hg1
  go_wp2_with (first
    | (go_at_call 13; refine (stream_any g1 (keyed key) 3 A l cap l.length _ HC23.out (keyed_length key HLK.out) rfl ((HR.out.below HBE3.out).more HBE3.out.size) (by omega)).mono ?_; rintro e w4 ⟨v4, rfl, -, hb4⟩; have HB4 := Lib.hid hb4; have hs4 := hb4.size; clear hb4)
    | (go_at_call 10; refine (HB1C.out g1 _ (HC23.out.below HB4.out HC23.out.lt)).mono ?_; rintro e w5 ⟨rfl, hb5⟩; have c5 := ((HB4.out.trans (hb5.mono hs4)).cell (p := ⟨w.heap.size, 0, none⟩) H33.out.lt).trans c3; have f5 := ((HB4.out.trans (hb5.mono hs4)).frozen (p := ⟨w.heap.size, 0, none⟩) H33.out.lt).trans f3; have HB5 := Lib.hid (HB4.out.trans (hb5.mono hs4)); clear hb5))
  have HI6 : Hid (BB (w5.setCell ⟨w.heap.size, 0, none⟩ (.int .u8 z)) (w.heap.size + 1) 22 inp) := (H43.out.below HB5.out H43.out.lt).far (by simp) _
  have HC6 : Hid (BB (w5.setCell ⟨w.heap.size, 0, none⟩ (.int .u8 z)) g1 43 (keyed key)) := (HC23.out.below HB5.out HC23.out.lt).far (by simp; omega) _
  have HD6 : Hid (BB (w5.setCell ⟨w.heap.size, 0, none⟩ (.int .u8 z)) g2 43 (keyed key)) := (HC3.out.below HB5.out HC3.out.lt).far (by simp; omega) _
  have HBE6 : Hid (Below w.heap.size w (w5.setCell ⟨w.heap.size, 0, none⟩ (.int .u8 z))) := (HBE3.out.trans (HB5.out.mono HBE3.out.size)).setCell (Nat.le_refl _) _
  have HR6 : Hid (RB (w5.setCell ⟨w.heap.size, 0, none⟩ (.int .u8 z)) (w5.setCell ⟨w.heap.size, 0, none⟩ (.int .u8 z)).heap.size A l cap) := (HR.out.below HBE6.out).more HBE6.out.size
  clear c3 f3 c5 f5 hz
  generalize w5.setCell ⟨w.heap.size, 0, none⟩ (.int .u8 z) = w6 at *
  refine held_begin (by kernel_rfl) ?_
  refine held_take (i := 0) (d := some 34) (v := ?qv11_0) rfl rfl (by kernel_rfl) (fun _ _ _ h => h) ?qy11_0 ?_; case qy11_0 => (refine Or.inl ⟨rfl, fun wx hS => ?_⟩; go_simp; try with_reducible rfl)
  simp only [Act.put, List.setIfInBounds_toArray, List.set_cons_zero, List.set_cons_succ]
  refine held_take (i := 1) (d := some 35) (v := _) rfl rfl (by kernel_rfl) (fun _ _ _ h => h) (yields_loadB arr16 (.tmp 4) rfl rfl (fun wx (hx : From w6.drew wx) => HI6.out.drew.below hx HI6.out.lt) HLI.out rfl) ?_
  simp only [Act.put, List.setIfInBounds_toArray, List.set_cons_zero, List.set_cons_succ]
  refine held_take (i := 3) (d := some 37) (v := ?qv11_3) rfl rfl (by kernel_rfl) (fun _ _ _ h => h) ?qy11_3 ?_; case qy11_3 => (refine Or.inl ⟨rfl, fun wx hS => ?_⟩; go_simp; try with_reducible rfl)
  simp only [Act.put, List.setIfInBounds_toArray, List.set_cons_zero, List.set_cons_succ]
  refine held_take (i := 4) (d := some 38) (v := _) rfl rfl (by kernel_rfl) (fun _ _ _ h => h) (yields_loadB arr16 (.tmp 4) rfl rfl (fun wx (hx : From w6.drew wx) => HI6.out.drew.below hx HI6.out.lt) HLI.out rfl) ?_
  simp only [Act.put, List.setIfInBounds_toArray, List.set_cons_zero, List.set_cons_succ]
  refine held_one (i := 2) rfl (by kernel_rfl) rfl (fun K hK => ?_)
  go_simp
  refine (block_any g1 (keyed key) inp _ HC6.out.drew (keyed_length key HLK.out) HLI.out).mono ?_
  rintro e w7 ⟨rfl, hb7⟩
  refine hK.out _ _ hb7 ?_
  have HB7 := Lib.hid hb7
  clear hK K hb7
  refine held_one (i := 5) rfl (by kernel_rfl) rfl (fun K hK => ?_)
  go_simp
  refine (block_any g2 (keyed key) inp _ (HD6.out.drew.below HB7.out HD6.out.lt) (keyed_length key HLK.out) HLI.out).mono ?_
  rintro e w8 ⟨rfl, hb8⟩
  refine hK.out _ _ hb8 ?_
  have HB8 := Lib.hid (From.trans HB7.out hb8)
  clear hK K hb8
  refine held_take (i := 6) (d := some 40) (v := _) rfl rfl (by kernel_rfl) (fun _ _ _ h => h) (yields_eqB hgt (.tmp 36) (.tmp 39) rfl rfl rfl rfl HE.out) ?_
  simp only [Act.put, List.setIfInBounds_toArray, List.set_cons_zero, List.set_cons_succ]
  refine held_take (i := 7) (d := some 41) (v := ?qv11_7) rfl rfl (by kernel_rfl) (fun _ _ _ h => h) ?qy11_7 ?_; case qy11_7 => (refine Or.inl ⟨rfl, fun wx hS => ?_⟩; go_simp; try with_reducible rfl)
  simp only [Act.put, List.setIfInBounds_toArray, List.set_cons_zero, List.set_cons_succ]
  first | refine held_skip (i := 8) (d := some 42) rfl rfl (by kernel_rfl) (fun _ _ _ h => h) rfl ?_ | (refine held_take (i := 8) (d := some 42) (v := ?qv11_8) rfl rfl (by kernel_rfl) (fun _ _ _ h => h) ?qy11_8 ?_; case qy11_8 => (refine Or.inl ⟨rfl, fun wx hS => ?_⟩; go_simp; try with_reducible rfl))
  simp only [Act.put, List.setIfInBounds_toArray, List.set_cons_zero, List.set_cons_succ]
  first | refine held_skip (i := 9) (d := some 43) rfl rfl (by kernel_rfl) (fun _ _ _ h => h) rfl ?_ | (refine held_take (i := 9) (d := some 43) (v := ?qv11_9) rfl rfl (by kernel_rfl) (fun _ _ _ h => h) ?qy11_9 ?_; case qy11_9 => (refine Or.inl ⟨rfl, fun wx hS => ?_⟩; go_simp; try with_reducible rfl))
  simp only [Act.put, List.setIfInBounds_toArray, List.set_cons_zero, List.set_cons_succ]
  first | refine held_skip (i := 12) (d := some 46) rfl rfl (by kernel_rfl) (fun _ _ _ h => h) rfl ?_ | (refine held_take (i := 12) (d := some 46) (v := ?qv11_12) rfl rfl (by kernel_rfl) (fun _ _ _ h => h) ?qy11_12 ?_; case qy11_12 => (refine Or.inl ⟨rfl, fun wx hS => ?_⟩; go_simp; try with_reducible rfl))
  simp only [Act.put, List.setIfInBounds_toArray, List.set_cons_zero, List.set_cons_succ]
  first | refine held_skip (i := 13) (d := some 47) rfl rfl (by kernel_rfl) (fun _ _ _ h => h) rfl ?_ | (refine held_take (i := 13) (d := some 47) (v := ?qv11_13) rfl rfl (by kernel_rfl) (fun _ _ _ h => h) ?qy11_13 ?_; case qy11_13 => (refine Or.inl ⟨rfl, fun wx hS => ?_⟩; go_simp; try with_reducible rfl))
  simp only [Act.put, List.setIfInBounds_toArray, List.set_cons_zero, List.set_cons_succ]
  refine held_one (i := 10) rfl (by kernel_rfl) rfl (fun K hK => ?_)
  go_simp
  refine (stream_any g1 (keyed key) 9 A l cap l.length _ (HC6.out.drew.below HB8.out HC6.out.lt) (keyed_length key HLK.out) rfl ((HR6.out.drew.below HB8.out).more HB8.out.size) (by omega)).mono ?_
  rintro e w9 ⟨v9, rfl, hown9, hb9⟩
  obtain ⟨A9, c9, rfl, hr9, -⟩ := hown9.shape
  refine hK.out _ _ hb9 ?_
  have HB9 := Lib.hid (From.trans HB8.out hb9)
  have hs9 := str_from byteT Try.underlying9 hr9 (Nat.le_refl _)
  rw [streamOf_length] at hs9 ⊢
  clear hK K hb9 hown9 hr9
  first | refine held_skip (i := 11) (d := some 45) rfl rfl (by kernel_rfl) (fun _ _ _ h => h) rfl ?_ | (refine held_take (i := 11) (d := some 45) (v := ?qv11_11) rfl rfl (by kernel_rfl) (fun _ _ _ h => h) ?qy11_11 ?_; case qy11_11 => (refine Or.inl ⟨rfl, fun wx hS => ?_⟩; go_simp; try with_reducible rfl))
  simp only [Act.put, List.setIfInBounds_toArray, List.set_cons_zero, List.set_cons_succ]
  refine held_one (i := 14) rfl (by kernel_rfl) rfl (fun K hK => ?_)
  go_simp
  refine (stream_any g2 (keyed key) 9 A l cap l.length _ (HD6.out.drew.below HB9.out HD6.out.lt) (keyed_length key HLK.out) rfl ((HR6.out.drew.below HB9.out).more HB9.out.size) (by omega)).mono ?_
  rintro e w10 ⟨v10, rfl, hown10, hb10⟩
  obtain ⟨A10, c10, rfl, hr10, -⟩ := hown10.shape
  refine hK.out _ _ hb10 ?_
  have HB10 := Lib.hid (From.trans HB9.out hb10)
  have hs10 := str_from byteT Try.underlying9 hr10 (Nat.le_refl _)
  rw [streamOf_length] at hs10 ⊢
  clear hK K hb10 hown10 hr10
  first | refine held_skip (i := 15) (d := some 49) rfl rfl (by kernel_rfl) (fun _ _ _ h => h) rfl ?_ | (refine held_take (i := 15) (d := some 49) (v := ?qv11_15) rfl rfl (by kernel_rfl) (fun _ _ _ h => h) ?qy11_15 ?_; case qy11_15 => (refine Or.inl ⟨rfl, fun wx hS => ?_⟩; go_simp; try with_reducible rfl))
  simp only [Act.put, List.setIfInBounds_toArray, List.set_cons_zero, List.set_cons_succ]
  first | refine held_skip (i := 16) (d := some 50) rfl rfl (by kernel_rfl) (fun _ _ _ h => h) rfl ?_ | (refine held_take (i := 16) (d := some 50) (v := ?qv11_16) rfl rfl (by kernel_rfl) (fun _ _ _ h => h) ?qy11_16 ?_; case qy11_16 => (refine Or.inl ⟨rfl, fun wx hS => ?_⟩; go_simp; try with_reducible rfl))
  simp only [Act.put, List.setIfInBounds_toArray, List.set_cons_zero, List.set_cons_succ]
  refine held_take (i := 17) (d := some 51) (v := ?qv11_17) rfl rfl (by kernel_rfl) (fun _ _ _ h => h) ?qy11_17 ?_; case qy11_17 => (refine Or.inl ⟨rfl, fun wx hS => ?_⟩; go_simp; try with_reducible rfl)
  simp only [Act.put, List.setIfInBounds_toArray, List.set_cons_zero, List.set_cons_succ]
  refine held_take (i := 18) (d := some 6) (v := ?qv11_18) rfl rfl (by kernel_rfl) (fun _ _ _ h => h) ?qy11_18 ?_; case qy11_18 => (refine Or.inl ⟨rfl, fun wx hS => ?_⟩; go_simp; try with_reducible rfl)
  simp only [Act.put, List.setIfInBounds_toArray, List.set_cons_zero, List.set_cons_succ]
  refine held_end (by kernel_rfl) ?_ _
  go_wp2
  go_ret
  exact ⟨rfl, HBE6.out.trans ((From.undrew HB10.out).mono HBE6.out.size)⟩
end Go.Proofs.Ytbpkaaajcimcgab
