/- The walk of Same of the document's answer, where the two lists are one. -/
import Derived.Test.YtajfaplaaafjiaaFrf
namespace Go.Proofs.Ytajfaplaaafjiaa
open Go.RowKit

theorem From.cell {w wx : World} (h : From w wx) {p : Addr} {v : Value} (hc : w.cell? p = some v) : wx.cell? p = some v :=
  (Below.cell h (World.block_lt_of_cell? w p hc)).trans hc

set_option maxHeartbeats 2000000 in
theorem same_any (A A' : Option Addr) (fs : List Fr) (cap cap' n n' B : Nat) (w : World) (hn : fs.length = n) (hn' : fs.length = n') (h : RF w B A fs cap) (h' : RF w B A' fs cap') (hB : B ≤ w.heap.size) :
    Calls Try.prog 16 #[.slice A n cap, .slice A' n' cap'] w fun e w' => e = .returned (.bool true) ∧ Below w.heap.size w w' := by
  subst hn hn'
  have hl : fs.length ≤ 9223372036854775807 := Nat.le_trans h.1 h.2.1
  have H := Lib.hid h
  have H' := Lib.hid h'
  clear h h'
  go_enter Try.func16, Try.ntmps16
  go_wp2
  go_loopw [5] (fun i wr => ∃ k : Nat, i = .int .i64 k ∧ k ≤ fs.length ∧ Below w.heap.size w wr) (fun i _ => fs.length - (intOf i).toNat)
  case atStart => exact ⟨0, rfl, Nat.zero_le _, Below.refl _ _⟩
  case round =>
    obtain ⟨k, rfl, hk, hbel⟩ := hrel
    by_cases hlt : k < fs.length
    · obtain ⟨f, hf⟩ : ∃ f, fs[k]? = some f := ⟨_, List.getElem?_eq_getElem hlt⟩
      obtain ⟨b, off, rfl, hb, hc⟩ := H.out.open_ (by omega)
      obtain ⟨b', off', rfl, hb', hc'⟩ := H'.out.open_ (by omega)
      obtain ⟨hc1, V, c, hc2, hV⟩ := hc k f hf
      obtain ⟨hd1, V', c', hd2, hV'⟩ := hc' k f hf
      obtain ⟨t, l⟩ := f
      have hbs := hbel.size
      have q1 := fun wx (hx : From wr.drew wx) => From.cell hx (w := wr.drew) ((hbel.cell (p := ⟨b, off + k * 2, none⟩) (by exact Nat.lt_of_lt_of_le hb hB)).trans hc1)
      have q2 := fun wx (hx : From wr.drew wx) => From.cell hx (w := wr.drew) ((hbel.cell (p := ⟨b, off + k * 2 + 1, none⟩) (by exact Nat.lt_of_lt_of_le hb hB)).trans hc2)
      have q3 := fun wx (hx : From wr.drew wx) => From.cell hx (w := wr.drew) ((hbel.cell (p := ⟨b', off' + k * 2, none⟩) (by exact Nat.lt_of_lt_of_le hb' hB)).trans hd1)
      have q4 := fun wx (hx : From wr.drew wx) => From.cell hx (w := wr.drew) ((hbel.cell (p := ⟨b', off' + k * 2 + 1, none⟩) (by exact Nat.lt_of_lt_of_le hb' hB)).trans hd2)
      have q5 := str_from byteT Try.underlying9 (w := wr.drew) ((hV.more hB).below hbel.drew) hbs
      have q6 := str_from byteT Try.underlying9 (w := wr.drew) ((hV'.more hB).below hbel.drew) hbs
      have hki : (k : Int) < (fs.length : Int) := by omega
      have HB := Lib.hid hbel
      clear hc hc' hc1 hc2 hd1 hd2 hV hV' hf hbel H H'
      go_wp2_with fail
      refine held_begin (by kernel_rfl) ?_
      refine held_take (i := 0) (d := some 17) (v := ?qv6_0) rfl rfl (by kernel_rfl) (fun _ _ _ h => h) ?qy6_0 ?_; case qy6_0 => (refine Or.inl ⟨rfl, fun wx hS => ?_⟩; go_simp; try with_reducible rfl)
      simp only [Act.put, List.setIfInBounds_toArray, List.set_cons_zero, List.set_cons_succ]
      refine held_take (i := 1) (d := some 18) (v := ?qv6_1) rfl rfl (by kernel_rfl) (fun _ _ _ h => h) ?qy6_1 ?_; case qy6_1 => (refine Or.inl ⟨rfl, fun wx hS => ?_⟩; go_simp; try with_reducible rfl)
      simp only [Act.put, List.setIfInBounds_toArray, List.set_cons_zero, List.set_cons_succ]
      refine held_take (i := 2) (d := some 19) (v := ?qv6_2) rfl rfl (by kernel_rfl) (fun _ _ _ h => h) ?qy6_2 ?_; case qy6_2 => (refine Or.inl ⟨rfl, fun wx hS => ?_⟩; go_simp; try with_reducible rfl)
      simp only [Act.put, List.setIfInBounds_toArray, List.set_cons_zero, List.set_cons_succ]
      refine held_take (i := 3) (d := some 20) (v := ?qv6_3) rfl rfl (by kernel_rfl) (fun _ _ _ h => h) ?qy6_3 ?_; case qy6_3 => (refine Or.inl ⟨rfl, fun wx hS => ?_⟩; go_simp; try with_reducible rfl)
      simp only [Act.put, List.setIfInBounds_toArray, List.set_cons_zero, List.set_cons_succ]
      refine held_take (i := 4) (d := some 21) (v := ?qv6_4) rfl rfl (by kernel_rfl) (fun _ _ _ h => h) ?qy6_4 ?_; case qy6_4 => (refine Or.inl ⟨rfl, fun wx hS => ?_⟩; go_simp; try with_reducible rfl)
      simp only [Act.put, List.setIfInBounds_toArray, List.set_cons_zero, List.set_cons_succ]
      refine held_take (i := 5) (d := some 22) (v := ?qv6_5) rfl rfl (by kernel_rfl) (fun _ _ _ h => h) ?qy6_5 ?_; case qy6_5 => (refine Or.inl ⟨rfl, fun wx hS => ?_⟩; go_simp; try with_reducible rfl)
      simp only [Act.put, List.setIfInBounds_toArray, List.set_cons_zero, List.set_cons_succ]
      refine held_take (i := 6) (d := some 23) (v := ?qv6_6) rfl rfl (by kernel_rfl) (fun _ _ _ h => h) ?qy6_6 ?_; case qy6_6 => (refine Or.inl ⟨rfl, fun wx hS => ?_⟩; go_simp; try with_reducible rfl)
      simp only [Act.put, List.setIfInBounds_toArray, List.set_cons_zero, List.set_cons_succ]
      refine held_take (i := 7) (d := some 24) (v := ?qv6_7) rfl rfl (by kernel_rfl) (fun _ _ _ h => h) ?qy6_7 ?_; case qy6_7 => (refine Or.inl ⟨rfl, fun wx hS => ?_⟩; go_simp; try with_reducible rfl)
      simp only [Act.put, List.setIfInBounds_toArray, List.set_cons_zero, List.set_cons_succ]
      refine held_take (i := 8) (d := some 25) (v := ?qv6_8) rfl rfl (by kernel_rfl) (fun _ _ _ h => h) ?qy6_8 ?_; case qy6_8 => (refine Or.inl ⟨rfl, fun wx hS => ?_⟩; go_simp; try with_reducible rfl)
      simp only [Act.put, List.setIfInBounds_toArray, List.set_cons_zero, List.set_cons_succ]
      refine held_take (i := 9) (d := some 26) (v := ?qv6_9) rfl rfl (by kernel_rfl) (fun _ _ _ h => h) ?qy6_9 ?_; case qy6_9 => (refine Or.inl ⟨rfl, fun wx hS => ?_⟩; go_simp; try with_reducible rfl)
      simp only [Act.put, List.setIfInBounds_toArray, List.set_cons_zero, List.set_cons_succ]
      refine held_take (i := 10) (d := some 27) (v := ?qv6_10) rfl rfl (by kernel_rfl) (fun _ _ _ h => h) ?qy6_10 ?_; case qy6_10 => (refine Or.inl ⟨rfl, fun wx hS => ?_⟩; go_simp; try with_reducible rfl)
      simp only [Act.put, List.setIfInBounds_toArray, List.set_cons_zero, List.set_cons_succ]
      refine held_take (i := 11) (d := some 28) (v := ?qv6_11) rfl rfl (by kernel_rfl) (fun _ _ _ h => h) ?qy6_11 ?_; case qy6_11 => (refine Or.inl ⟨rfl, fun wx hS => ?_⟩; go_simp; try with_reducible rfl)
      simp only [Act.put, List.setIfInBounds_toArray, List.set_cons_zero, List.set_cons_succ]
      first | refine held_skip (i := 12) (d := some 29) rfl rfl (by kernel_rfl) (fun _ _ _ h => h) rfl ?_ | (refine held_take (i := 12) (d := some 29) (v := ?qv6_12) rfl rfl (by kernel_rfl) (fun _ _ _ h => h) ?qy6_12 ?_; case qy6_12 => (refine Or.inl ⟨rfl, fun wx hS => ?_⟩; go_simp; try with_reducible rfl))
      simp only [Act.put, List.setIfInBounds_toArray, List.set_cons_zero, List.set_cons_succ]
      first | refine held_skip (i := 13) (d := some 30) rfl rfl (by kernel_rfl) (fun _ _ _ h => h) rfl ?_ | (refine held_take (i := 13) (d := some 30) (v := ?qv6_13) rfl rfl (by kernel_rfl) (fun _ _ _ h => h) ?qy6_13 ?_; case qy6_13 => (refine Or.inl ⟨rfl, fun wx hS => ?_⟩; go_simp; try with_reducible rfl))
      simp only [Act.put, List.setIfInBounds_toArray, List.set_cons_zero, List.set_cons_succ]
      first | refine held_skip (i := 14) (d := some 31) rfl rfl (by kernel_rfl) (fun _ _ _ h => h) rfl ?_ | (refine held_take (i := 14) (d := some 31) (v := ?qv6_14) rfl rfl (by kernel_rfl) (fun _ _ _ h => h) ?qy6_14 ?_; case qy6_14 => (refine Or.inl ⟨rfl, fun wx hS => ?_⟩; go_simp; try with_reducible rfl))
      simp only [Act.put, List.setIfInBounds_toArray, List.set_cons_zero, List.set_cons_succ]
      first | refine held_skip (i := 15) (d := some 32) rfl rfl (by kernel_rfl) (fun _ _ _ h => h) rfl ?_ | (refine held_take (i := 15) (d := some 32) (v := ?qv6_15) rfl rfl (by kernel_rfl) (fun _ _ _ h => h) ?qy6_15 ?_; case qy6_15 => (refine Or.inl ⟨rfl, fun wx hS => ?_⟩; go_simp; try with_reducible rfl))
      simp only [Act.put, List.setIfInBounds_toArray, List.set_cons_zero, List.set_cons_succ]
      first | refine held_skip (i := 16) (d := some 33) rfl rfl (by kernel_rfl) (fun _ _ _ h => h) rfl ?_ | (refine held_take (i := 16) (d := some 33) (v := ?qv6_16) rfl rfl (by kernel_rfl) (fun _ _ _ h => h) ?qy6_16 ?_; case qy6_16 => (refine Or.inl ⟨rfl, fun wx hS => ?_⟩; go_simp; try with_reducible rfl))
      simp only [Act.put, List.setIfInBounds_toArray, List.set_cons_zero, List.set_cons_succ]
      first | refine held_skip (i := 17) (d := some 34) rfl rfl (by kernel_rfl) (fun _ _ _ h => h) rfl ?_ | (refine held_take (i := 17) (d := some 34) (v := ?qv6_17) rfl rfl (by kernel_rfl) (fun _ _ _ h => h) ?qy6_17 ?_; case qy6_17 => (refine Or.inl ⟨rfl, fun wx hS => ?_⟩; go_simp; try with_reducible rfl))
      simp only [Act.put, List.setIfInBounds_toArray, List.set_cons_zero, List.set_cons_succ]
      first | refine held_skip (i := 18) (d := some 35) rfl rfl (by kernel_rfl) (fun _ _ _ h => h) rfl ?_ | (refine held_take (i := 18) (d := some 35) (v := ?qv6_18) rfl rfl (by kernel_rfl) (fun _ _ _ h => h) ?qy6_18 ?_; case qy6_18 => (refine Or.inl ⟨rfl, fun wx hS => ?_⟩; go_simp; try with_reducible rfl))
      simp only [Act.put, List.setIfInBounds_toArray, List.set_cons_zero, List.set_cons_succ]
      first | refine held_skip (i := 19) (d := some 36) rfl rfl (by kernel_rfl) (fun _ _ _ h => h) rfl ?_ | (refine held_take (i := 19) (d := some 36) (v := ?qv6_19) rfl rfl (by kernel_rfl) (fun _ _ _ h => h) ?qy6_19 ?_; case qy6_19 => (refine Or.inl ⟨rfl, fun wx hS => ?_⟩; go_simp; try with_reducible rfl))
      simp only [Act.put, List.setIfInBounds_toArray, List.set_cons_zero, List.set_cons_succ]
      first | refine held_skip (i := 20) (d := some 37) rfl rfl (by kernel_rfl) (fun _ _ _ h => h) rfl ?_ | (refine held_take (i := 20) (d := some 37) (v := ?qv6_20) rfl rfl (by kernel_rfl) (fun _ _ _ h => h) ?qy6_20 ?_; case qy6_20 => (refine Or.inl ⟨rfl, fun wx hS => ?_⟩; go_simp; try with_reducible rfl))
      simp only [Act.put, List.setIfInBounds_toArray, List.set_cons_zero, List.set_cons_succ]
      first | refine held_skip (i := 21) (d := some 38) rfl rfl (by kernel_rfl) (fun _ _ _ h => h) rfl ?_ | (refine held_take (i := 21) (d := some 38) (v := ?qv6_21) rfl rfl (by kernel_rfl) (fun _ _ _ h => h) ?qy6_21 ?_; case qy6_21 => (refine Or.inl ⟨rfl, fun wx hS => ?_⟩; go_simp; try with_reducible rfl))
      simp only [Act.put, List.setIfInBounds_toArray, List.set_cons_zero, List.set_cons_succ]
      first | refine held_skip (i := 22) (d := some 39) rfl rfl (by kernel_rfl) (fun _ _ _ h => h) rfl ?_ | (refine held_take (i := 22) (d := some 39) (v := ?qv6_22) rfl rfl (by kernel_rfl) (fun _ _ _ h => h) ?qy6_22 ?_; case qy6_22 => (refine Or.inl ⟨rfl, fun wx hS => ?_⟩; go_simp; try with_reducible rfl))
      simp only [Act.put, List.setIfInBounds_toArray, List.set_cons_zero, List.set_cons_succ]
      first | refine held_skip (i := 23) (d := some 40) rfl rfl (by kernel_rfl) (fun _ _ _ h => h) rfl ?_ | (refine held_take (i := 23) (d := some 40) (v := ?qv6_23) rfl rfl (by kernel_rfl) (fun _ _ _ h => h) ?qy6_23 ?_; case qy6_23 => (refine Or.inl ⟨rfl, fun wx hS => ?_⟩; go_simp; try with_reducible rfl))
      simp only [Act.put, List.setIfInBounds_toArray, List.set_cons_zero, List.set_cons_succ]
      first | refine held_skip (i := 24) (d := some 41) rfl rfl (by kernel_rfl) (fun _ _ _ h => h) rfl ?_ | (refine held_take (i := 24) (d := some 41) (v := ?qv6_24) rfl rfl (by kernel_rfl) (fun _ _ _ h => h) ?qy6_24 ?_; case qy6_24 => (refine Or.inl ⟨rfl, fun wx hS => ?_⟩; go_simp; try with_reducible rfl))
      simp only [Act.put, List.setIfInBounds_toArray, List.set_cons_zero, List.set_cons_succ]
      refine held_take (i := 25) (d := some 42) (v := ?qv6_25) rfl rfl (by kernel_rfl) (fun _ _ _ h => h) ?qy6_25 ?_; case qy6_25 => (refine Or.inl ⟨rfl, fun wx hS => ?_⟩; go_simp; try with_reducible rfl)
      simp only [Act.put, List.setIfInBounds_toArray, List.set_cons_zero, List.set_cons_succ]
      refine held_end (by kernel_rfl) ?_ _
      go_wp2
      go_roundw
      case rel => exact ⟨k + 1, by go_num, by omega, HB.out.drew⟩
      case measure => simp [intOf]; omega
    · go_wp2
      go_ret
      exact ⟨rfl, hbel⟩

end Go.Proofs.Ytajfaplaaafjiaa
