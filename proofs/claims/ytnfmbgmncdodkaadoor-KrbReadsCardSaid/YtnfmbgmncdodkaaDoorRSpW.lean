/- The walk of Split of the document's answer. -/
import Derived.Test.YtnfmbgmncdodkaaDoorPrt
namespace Go.Proofs.YtnfmbgmncdodkaaDoor
open Go.RowKit

set_option maxRecDepth 100000 in
set_option maxHeartbeats 2000000 in
theorem refSplit_any (A : Option Addr) (l : List UInt8) (cap n : Nat) (w : World) (hn : l.length = n) (h : RB w w.heap.size A l cap) (hl : n ≤ 1000000000000) :
    Calls Tryd.prog 24 #[.slice A n cap] w fun e w' => ∃ v, e = .returned (.tuple #[v, .int .i64 (splitOf l).2]) ∧ OwnF w' w.heap.size 64 5 v (splitOf l).1 ∧ Below w.heap.size w w' := by
  subst hn
  have H := Lib.hid h
  clear h
  go_enter Tryd.func24, Tryd.ntmps24
  go_wp2
  go_loopw [4, 5] (fun v i wr => ∃ (f k : Nat) (acc : List Fd), i = .int .i64 k ∧ k ≤ l.length ∧ OwnF wr w.heap.size 64 5 v acc ∧ Below w.heap.size w wr ∧
    splitOf l = splitF f (l.drop k) acc ∧ l.length ≤ f + k ∧ acc.length ≤ k) (fun _ i _ => l.length - (intOf i).toNat)
  case atStart => exact ⟨l.length, 0, [], rfl, Nat.zero_le _, OwnF.new0 _ _ _ _ (Nat.le_refl _), (Below.refl _ _).alloc (Nat.le_refl _) _, rfl, by omega, by simp⟩
  case round =>
    obtain ⟨f, k, acc, rfl, hk, hown, hbel, hs, hf, hlen⟩ := hrel
    have hbs := hbel.size
    by_cases hlt : k < l.length
    · obtain ⟨b, off, rfl, hb, hc⟩ := H.out.open_ (by omega)
      have hne : l.drop k ≠ [] := by intro he; have := congrArg List.length he; simp at this; omega
      obtain ⟨g, rfl⟩ : ∃ g, f = g + 1 := ⟨f - 1, by omega⟩
      have hki : (k : Int) < (l.length : Int) := by omega
      have hd0 : (l.drop k).headD 0 = l[k] := by rw [List.drop_eq_getElem_cons hlt]; rfl
      have c0 := (hbel.cell (p := ⟨b, off + k, none⟩) hb).trans (hc k hlt)
      have hx0 := l[k].toNat_lt
      have hsp : splitOf l = if (firstOf (l.drop k)).2.2 = 0 then splitF g (firstOf (l.drop k)).2.1 (acc ++ [(firstOf (l.drop k)).1]) else ([], (firstOf (l.drop k)).2.2) := by rw [hs, splitF, if_neg hne]
      by_cases hz : l[k] = 0
      · have hr : firstOf (l.drop k) = ((0, []), [], 21) := by rw [firstOf, if_pos (by rw [hd0]; exact hz)]
        rw [hr, if_neg (by decide)] at hsp
        rw [hz] at c0
        simp at c0
        have HS := Lib.hid hsp
        have HB := Lib.hid hbel
        clear hs hsp hown hbel hc hr hd0 hne hz
        go_wp2
        go_ret2
        exact ⟨_, by rw [HS.out]; rfl, by rw [HS.out]; exact OwnF.new0 _ _ _ _ hbs, HB.out.alloc hbs _⟩
      have hne0 : ((l[k].toNat : Int) == 0) = false := by
        rw [beq_eq_false_iff_ne]
        intro he
        exact hz (UInt8.toNat_inj.1 (by simpa using he))
      have hdl : (l.drop k).length = l.length - k := List.length_drop
      by_cases h3 : l.length - k < 3
      · have hr : firstOf (l.drop k) = ((0, []), [], 20) := by rw [firstOf, if_neg (by rw [hd0]; exact hz), if_pos (by omega)]
        rw [hr, if_neg (by decide)] at hsp
        have HS := Lib.hid hsp
        have HB := Lib.hid hbel
        have h3i : (l.length : Int) - (k : Int) < 3 := by omega
        clear hs hsp hown hbel hc hr hd0 hne hz
        go_wp2_with fail
        refine heldb_begin w.heap.size (by kernel_rfl) (fun hS0 => ?_)
        refine heldb_take (i := 0) (d := some 23) (v := ?qv6_0) (by assumption) rfl rfl (by kernel_rfl) (fun _ _ _ h => h) ?qy6_0 ?_; case qy6_0 => (refine Or.inl ⟨rfl, fun wx hS => ?_⟩; go_simp; try with_reducible rfl)
        simp only [Act.put, List.setIfInBounds_toArray, List.set_cons_zero, List.set_cons_succ]
        refine heldb_take (i := 1) (d := some 24) (v := ?qv6_1) (by assumption) rfl rfl (by kernel_rfl) (fun _ _ _ h => h) ?qy6_1 ?_; case qy6_1 => (refine Or.inl ⟨rfl, fun wx hS => ?_⟩; go_simp; try with_reducible rfl)
        simp only [Act.put, List.setIfInBounds_toArray, List.set_cons_zero, List.set_cons_succ]
        refine heldb_take (i := 2) (d := some 25) (v := ?qv6_2) (by assumption) rfl rfl (by kernel_rfl) (fun _ _ _ h => h) ?qy6_2 ?_; case qy6_2 => (refine Or.inl ⟨rfl, fun wx hS => ?_⟩; go_simp; try with_reducible rfl)
        simp only [Act.put, List.setIfInBounds_toArray, List.set_cons_zero, List.set_cons_succ]
        first | refine heldb_skip (i := 3) (d := some 26) (by assumption) rfl rfl (by kernel_rfl) (fun _ _ _ h => h) rfl ?_ | (refine heldb_take (i := 3) (d := some 26) (v := ?qv6_3) (by assumption) rfl rfl (by kernel_rfl) (fun _ _ _ h => h) ?qy6_3 ?_; case qy6_3 => (refine Or.inl ⟨rfl, fun wx hS => ?_⟩; go_simp; try with_reducible rfl))
        simp only [Act.put, List.setIfInBounds_toArray, List.set_cons_zero, List.set_cons_succ]
        first | refine heldb_skip (i := 4) (d := some 27) (by assumption) rfl rfl (by kernel_rfl) (fun _ _ _ h => h) rfl ?_ | (refine heldb_take (i := 4) (d := some 27) (v := ?qv6_4) (by assumption) rfl rfl (by kernel_rfl) (fun _ _ _ h => h) ?qy6_4 ?_; case qy6_4 => (refine Or.inl ⟨rfl, fun wx hS => ?_⟩; go_simp; try with_reducible rfl))
        simp only [Act.put, List.setIfInBounds_toArray, List.set_cons_zero, List.set_cons_succ]
        first | refine heldb_skip (i := 5) (d := some 28) (by assumption) rfl rfl (by kernel_rfl) (fun _ _ _ h => h) rfl ?_ | (refine heldb_take (i := 5) (d := some 28) (v := ?qv6_5) (by assumption) rfl rfl (by kernel_rfl) (fun _ _ _ h => h) ?qy6_5 ?_; case qy6_5 => (refine Or.inl ⟨rfl, fun wx hS => ?_⟩; go_simp; try with_reducible rfl))
        simp only [Act.put, List.setIfInBounds_toArray, List.set_cons_zero, List.set_cons_succ]
        first | refine heldb_skip (i := 6) (d := some 29) (by assumption) rfl rfl (by kernel_rfl) (fun _ _ _ h => h) rfl ?_ | (refine heldb_take (i := 6) (d := some 29) (v := ?qv6_6) (by assumption) rfl rfl (by kernel_rfl) (fun _ _ _ h => h) ?qy6_6 ?_; case qy6_6 => (refine Or.inl ⟨rfl, fun wx hS => ?_⟩; go_simp; try with_reducible rfl))
        simp only [Act.put, List.setIfInBounds_toArray, List.set_cons_zero, List.set_cons_succ]
        first | refine heldb_skip (i := 7) (d := some 30) (by assumption) rfl rfl (by kernel_rfl) (fun _ _ _ h => h) rfl ?_ | (refine heldb_take (i := 7) (d := some 30) (v := ?qv6_7) (by assumption) rfl rfl (by kernel_rfl) (fun _ _ _ h => h) ?qy6_7 ?_; case qy6_7 => (refine Or.inl ⟨rfl, fun wx hS => ?_⟩; go_simp; try with_reducible rfl))
        simp only [Act.put, List.setIfInBounds_toArray, List.set_cons_zero, List.set_cons_succ]
        first | refine heldb_skip (i := 8) (d := some 31) (by assumption) rfl rfl (by kernel_rfl) (fun _ _ _ h => h) rfl ?_ | (refine heldb_take (i := 8) (d := some 31) (v := ?qv6_8) (by assumption) rfl rfl (by kernel_rfl) (fun _ _ _ h => h) ?qy6_8 ?_; case qy6_8 => (refine Or.inl ⟨rfl, fun wx hS => ?_⟩; go_simp; try with_reducible rfl))
        simp only [Act.put, List.setIfInBounds_toArray, List.set_cons_zero, List.set_cons_succ]
        first | refine heldb_skip (i := 9) (d := some 32) (by assumption) rfl rfl (by kernel_rfl) (fun _ _ _ h => h) rfl ?_ | (refine heldb_take (i := 9) (d := some 32) (v := ?qv6_9) (by assumption) rfl rfl (by kernel_rfl) (fun _ _ _ h => h) ?qy6_9 ?_; case qy6_9 => (refine Or.inl ⟨rfl, fun wx hS => ?_⟩; go_simp; try with_reducible rfl))
        simp only [Act.put, List.setIfInBounds_toArray, List.set_cons_zero, List.set_cons_succ]
        first | refine heldb_skip (i := 10) (d := some 33) (by assumption) rfl rfl (by kernel_rfl) (fun _ _ _ h => h) rfl ?_ | (refine heldb_take (i := 10) (d := some 33) (v := ?qv6_10) (by assumption) rfl rfl (by kernel_rfl) (fun _ _ _ h => h) ?qy6_10 ?_; case qy6_10 => (refine Or.inl ⟨rfl, fun wx hS => ?_⟩; go_simp; try with_reducible rfl))
        simp only [Act.put, List.setIfInBounds_toArray, List.set_cons_zero, List.set_cons_succ]
        first | refine heldb_skip (i := 11) (d := some 34) (by assumption) rfl rfl (by kernel_rfl) (fun _ _ _ h => h) rfl ?_ | (refine heldb_take (i := 11) (d := some 34) (v := ?qv6_11) (by assumption) rfl rfl (by kernel_rfl) (fun _ _ _ h => h) ?qy6_11 ?_; case qy6_11 => (refine Or.inl ⟨rfl, fun wx hS => ?_⟩; go_simp; try with_reducible rfl))
        simp only [Act.put, List.setIfInBounds_toArray, List.set_cons_zero, List.set_cons_succ]
        first | refine heldb_skip (i := 12) (d := some 35) (by assumption) rfl rfl (by kernel_rfl) (fun _ _ _ h => h) rfl ?_ | (refine heldb_take (i := 12) (d := some 35) (v := ?qv6_12) (by assumption) rfl rfl (by kernel_rfl) (fun _ _ _ h => h) ?qy6_12 ?_; case qy6_12 => (refine Or.inl ⟨rfl, fun wx hS => ?_⟩; go_simp; try with_reducible rfl))
        simp only [Act.put, List.setIfInBounds_toArray, List.set_cons_zero, List.set_cons_succ]
        first | refine heldb_skip (i := 13) (d := some 36) (by assumption) rfl rfl (by kernel_rfl) (fun _ _ _ h => h) rfl ?_ | (refine heldb_take (i := 13) (d := some 36) (v := ?qv6_13) (by assumption) rfl rfl (by kernel_rfl) (fun _ _ _ h => h) ?qy6_13 ?_; case qy6_13 => (refine Or.inl ⟨rfl, fun wx hS => ?_⟩; go_simp; try with_reducible rfl))
        simp only [Act.put, List.setIfInBounds_toArray, List.set_cons_zero, List.set_cons_succ]
        first | refine heldb_skip (i := 14) (d := some 37) (by assumption) rfl rfl (by kernel_rfl) (fun _ _ _ h => h) rfl ?_ | (refine heldb_take (i := 14) (d := some 37) (v := ?qv6_14) (by assumption) rfl rfl (by kernel_rfl) (fun _ _ _ h => h) ?qy6_14 ?_; case qy6_14 => (refine Or.inl ⟨rfl, fun wx hS => ?_⟩; go_simp; try with_reducible rfl))
        simp only [Act.put, List.setIfInBounds_toArray, List.set_cons_zero, List.set_cons_succ]
        first | refine heldb_skip (i := 15) (d := some 38) (by assumption) rfl rfl (by kernel_rfl) (fun _ _ _ h => h) rfl ?_ | (refine heldb_take (i := 15) (d := some 38) (v := ?qv6_15) (by assumption) rfl rfl (by kernel_rfl) (fun _ _ _ h => h) ?qy6_15 ?_; case qy6_15 => (refine Or.inl ⟨rfl, fun wx hS => ?_⟩; go_simp; try with_reducible rfl))
        simp only [Act.put, List.setIfInBounds_toArray, List.set_cons_zero, List.set_cons_succ]
        first | refine heldb_skip (i := 16) (d := some 39) (by assumption) rfl rfl (by kernel_rfl) (fun _ _ _ h => h) rfl ?_ | (refine heldb_take (i := 16) (d := some 39) (v := ?qv6_16) (by assumption) rfl rfl (by kernel_rfl) (fun _ _ _ h => h) ?qy6_16 ?_; case qy6_16 => (refine Or.inl ⟨rfl, fun wx hS => ?_⟩; go_simp; try with_reducible rfl))
        simp only [Act.put, List.setIfInBounds_toArray, List.set_cons_zero, List.set_cons_succ]
        first | refine heldb_skip (i := 17) (d := some 40) (by assumption) rfl rfl (by kernel_rfl) (fun _ _ _ h => h) rfl ?_ | (refine heldb_take (i := 17) (d := some 40) (v := ?qv6_17) (by assumption) rfl rfl (by kernel_rfl) (fun _ _ _ h => h) ?qy6_17 ?_; case qy6_17 => (refine Or.inl ⟨rfl, fun wx hS => ?_⟩; go_simp; try with_reducible rfl))
        simp only [Act.put, List.setIfInBounds_toArray, List.set_cons_zero, List.set_cons_succ]
        first | refine heldb_skip (i := 18) (d := some 41) (by assumption) rfl rfl (by kernel_rfl) (fun _ _ _ h => h) rfl ?_ | (refine heldb_take (i := 18) (d := some 41) (v := ?qv6_18) (by assumption) rfl rfl (by kernel_rfl) (fun _ _ _ h => h) ?qy6_18 ?_; case qy6_18 => (refine Or.inl ⟨rfl, fun wx hS => ?_⟩; go_simp; try with_reducible rfl))
        simp only [Act.put, List.setIfInBounds_toArray, List.set_cons_zero, List.set_cons_succ]
        first | refine heldb_skip (i := 19) (d := some 42) (by assumption) rfl rfl (by kernel_rfl) (fun _ _ _ h => h) rfl ?_ | (refine heldb_take (i := 19) (d := some 42) (v := ?qv6_19) (by assumption) rfl rfl (by kernel_rfl) (fun _ _ _ h => h) ?qy6_19 ?_; case qy6_19 => (refine Or.inl ⟨rfl, fun wx hS => ?_⟩; go_simp; try with_reducible rfl))
        simp only [Act.put, List.setIfInBounds_toArray, List.set_cons_zero, List.set_cons_succ]
        refine heldb_take (i := 20) (d := some 43) (v := ?qv6_20) (by assumption) rfl rfl (by kernel_rfl) (fun _ _ _ h => h) ?qy6_20 ?_; case qy6_20 => (refine Or.inl ⟨rfl, fun wx hS => ?_⟩; go_simp; try with_reducible rfl)
        simp only [Act.put, List.setIfInBounds_toArray, List.set_cons_zero, List.set_cons_succ]
        refine held_end (by kernel_rfl) ?_ _
        go_wp2
        go_ret2
        exact ⟨_, by rw [HS.out]; rfl, by rw [HS.out]; exact OwnF.new0 _ _ _ _ hbs, HB.out.drew.alloc hbs _⟩
      · have hg1 : (l.drop k).getD 1 0 = l[k + 1] := by simp [List.getD, List.getElem?_drop, List.getElem?_eq_getElem (show k + 1 < l.length by omega)]
        have hg2 : (l.drop k).getD 2 0 = l[k + 2] := by simp [List.getD, List.getElem?_drop, List.getElem?_eq_getElem (show k + 2 < l.length by omega)]
        have HQ0 : Hid (∀ w0, Below w.heap.size wr w0 → ∀ wx, Below w.heap.size w0 wx → wx.cell? ⟨b, off + k, none⟩ = some (.int .u8 (l[k].toNat : Int))) := fun w0 h0 wx hx => ((h0.trans hx).cell (p := ⟨b, off + k, none⟩) hb).trans c0
        have HQ1 : Hid (∀ w0, Below w.heap.size wr w0 → ∀ wx, Below w.heap.size w0 wx → wx.cell? ⟨b, off + (k + 1), none⟩ = some (.int .u8 (l[k + 1].toNat : Int))) := fun w0 h0 wx hx => ((hbel.trans (h0.trans hx)).cell (p := ⟨b, off + (k + 1), none⟩) hb).trans (hc (k + 1) (by omega))
        have HQ2 : Hid (∀ w0, Below w.heap.size wr w0 → ∀ wx, Below w.heap.size w0 wx → wx.cell? ⟨b, off + (k + 2), none⟩ = some (.int .u8 (l[k + 2].toNat : Int))) := fun w0 h0 wx hx => ((hbel.trans (h0.trans hx)).cell (p := ⟨b, off + (k + 2), none⟩) hb).trans (hc (k + 2) (by omega))
        have hx1 := l[k + 1].toNat_lt
        have hx2 := l[k + 2].toNat_lt
        have hlc : l.length ≤ cap := H.out.1
        have hcm : cap ≤ 9223372036854775807 := H.out.2.1
        have h3i : ¬ (l.length : Int) - (k : Int) < 3 := by omega
        have h3d : decide ((l.length : Int) - (k : Int) < 3) = false := by simp; omega
        have h1i : ((k : Int) + 1) < (l.length : Int) := by omega
        have h2i : ((k : Int) + 2) < (l.length : Int) := by omega
        have hcut := H.out.cut (k := k + 3) (by omega)
        by_cases hN : l.length - k - 3 < l[k + 1].toNat * 256 + l[k + 2].toNat
        · have hr : firstOf (l.drop k) = ((0, []), [], 20) := by rw [firstOf, hd0, hg1, hg2, if_neg hz, if_neg (by omega), if_pos (by omega)]
          rw [hr, if_neg (by decide)] at hsp
          have HS := Lib.hid hsp
          have HB := Lib.hid hbel
          clear hs hsp hown hbel hc hr hd0 hne hz hg1 hg2 hcut H
          generalize l[k].toNat = x0 at *
          generalize l[k + 1].toNat = x1 at *
          generalize l[k + 2].toNat = x2 at *
          have hgt : (l.length : Int) - (k : Int) - 3 < 256 * (x1 : Int) + (x2 : Int) := by omega
          have hgd : decide ((l.length : Int) - (k : Int) - 3 < 256 * (x1 : Int) + (x2 : Int)) = true := by simp; omega
          go_wp2_with fail
          have hw1 : IntKind.i64.wrap ((k : Int) + 1) = (k : Int) + 1 := by rw [IntKind.wrap_i64]; omega
          have hw2 : IntKind.i64.wrap ((k : Int) + 2) = (k : Int) + 2 := by rw [IntKind.wrap_i64]; omega
          have hn1 : ((k : Int) + 1).toNat = k + 1 := by omega
          have hn2 : ((k : Int) + 2).toNat = k + 2 := by omega
          have hp1 : (0 : Int) ≤ (k : Int) + 1 := by omega
          have hp2 : (0 : Int) ≤ (k : Int) + 2 := by omega
          have hw3 : IntKind.i64.wrap (256 * (x1 : Int)) = 256 * (x1 : Int) := by rw [IntKind.wrap_i64]; omega
          have hw4 : IntKind.i64.wrap (256 * (x1 : Int) + (x2 : Int)) = 256 * (x1 : Int) + (x2 : Int) := by rw [IntKind.wrap_i64]; omega
          have hw5 : IntKind.i64.wrap ((l.length : Int) - (k : Int) - 3) = (l.length : Int) - (k : Int) - 3 := by rw [IntKind.wrap_i64]; omega
          have hw6 : IntKind.i64.wrap (x1 : Int) = x1 := by rw [IntKind.wrap_i64]; omega
          have hw7 : IntKind.i64.wrap (x2 : Int) = x2 := by rw [IntKind.wrap_i64]; omega
          have hw8 : IntKind.i64.wrap ((l.length : Int) - (k : Int)) = (l.length : Int) - (k : Int) := by rw [IntKind.wrap_i64]; omega
          have q1 := HQ1.out wr.drew (Below.refl _ _).drew
          have q2 := HQ2.out wr.drew (Below.refl _ _).drew
          refine heldb_begin w.heap.size (by kernel_rfl) (fun hS0 => ?_)
          refine heldb_take (i := 0) (d := some 23) (v := ?qvb6_0) (by assumption) rfl rfl (by kernel_rfl) (fun _ _ _ h => h) ?qyb6_0 ?_; case qyb6_0 => (refine Or.inl ⟨rfl, fun wx hS => ?_⟩; go_simp; try with_reducible rfl)
          simp only [Act.put, List.setIfInBounds_toArray, List.set_cons_zero, List.set_cons_succ]
          refine heldb_take (i := 1) (d := some 24) (v := ?qvb6_1) (by assumption) rfl rfl (by kernel_rfl) (fun _ _ _ h => h) ?qyb6_1 ?_; case qyb6_1 => (refine Or.inl ⟨rfl, fun wx hS => ?_⟩; go_simp; try with_reducible rfl)
          simp only [Act.put, List.setIfInBounds_toArray, List.set_cons_zero, List.set_cons_succ]
          refine heldb_take (i := 2) (d := some 25) (v := ?qvb6_2) (by assumption) rfl rfl (by kernel_rfl) (fun _ _ _ h => h) ?qyb6_2 ?_; case qyb6_2 => (refine Or.inl ⟨rfl, fun wx hS => ?_⟩; go_simp; try with_reducible rfl)
          simp only [Act.put, List.setIfInBounds_toArray, List.set_cons_zero, List.set_cons_succ]
          first | refine heldb_skip (i := 3) (d := some 26) (by assumption) rfl rfl (by kernel_rfl) (fun _ _ _ h => h) rfl ?_ | (refine heldb_take (i := 3) (d := some 26) (v := ?qvb6_3) (by assumption) rfl rfl (by kernel_rfl) (fun _ _ _ h => h) ?qyb6_3 ?_; case qyb6_3 => (refine Or.inl ⟨rfl, fun wx hS => ?_⟩; go_simp; try with_reducible rfl))
          simp only [Act.put, List.setIfInBounds_toArray, List.set_cons_zero, List.set_cons_succ]
          first | refine heldb_skip (i := 4) (d := some 27) (by assumption) rfl rfl (by kernel_rfl) (fun _ _ _ h => h) rfl ?_ | (refine heldb_take (i := 4) (d := some 27) (v := ?qvb6_4) (by assumption) rfl rfl (by kernel_rfl) (fun _ _ _ h => h) ?qyb6_4 ?_; case qyb6_4 => (refine Or.inl ⟨rfl, fun wx hS => ?_⟩; go_simp; try with_reducible rfl))
          simp only [Act.put, List.setIfInBounds_toArray, List.set_cons_zero, List.set_cons_succ]
          first | refine heldb_skip (i := 5) (d := some 28) (by assumption) rfl rfl (by kernel_rfl) (fun _ _ _ h => h) rfl ?_ | (refine heldb_take (i := 5) (d := some 28) (v := ?qvb6_5) (by assumption) rfl rfl (by kernel_rfl) (fun _ _ _ h => h) ?qyb6_5 ?_; case qyb6_5 => (refine Or.inl ⟨rfl, fun wx hS => ?_⟩; go_simp; try with_reducible rfl))
          simp only [Act.put, List.setIfInBounds_toArray, List.set_cons_zero, List.set_cons_succ]
          first | refine heldb_skip (i := 6) (d := some 29) (by assumption) rfl rfl (by kernel_rfl) (fun _ _ _ h => h) rfl ?_ | (refine heldb_take (i := 6) (d := some 29) (v := ?qvb6_6) (by assumption) rfl rfl (by kernel_rfl) (fun _ _ _ h => h) ?qyb6_6 ?_; case qyb6_6 => (refine Or.inl ⟨rfl, fun wx hS => ?_⟩; go_simp; try with_reducible rfl))
          simp only [Act.put, List.setIfInBounds_toArray, List.set_cons_zero, List.set_cons_succ]
          first | refine heldb_skip (i := 7) (d := some 30) (by assumption) rfl rfl (by kernel_rfl) (fun _ _ _ h => h) rfl ?_ | (refine heldb_take (i := 7) (d := some 30) (v := ?qvb6_7) (by assumption) rfl rfl (by kernel_rfl) (fun _ _ _ h => h) ?qyb6_7 ?_; case qyb6_7 => (refine Or.inl ⟨rfl, fun wx hS => ?_⟩; go_simp; try with_reducible rfl))
          simp only [Act.put, List.setIfInBounds_toArray, List.set_cons_zero, List.set_cons_succ]
          first | refine heldb_skip (i := 8) (d := some 31) (by assumption) rfl rfl (by kernel_rfl) (fun _ _ _ h => h) rfl ?_ | (refine heldb_take (i := 8) (d := some 31) (v := ?qvb6_8) (by assumption) rfl rfl (by kernel_rfl) (fun _ _ _ h => h) ?qyb6_8 ?_; case qyb6_8 => (refine Or.inl ⟨rfl, fun wx hS => ?_⟩; go_simp; try with_reducible rfl))
          simp only [Act.put, List.setIfInBounds_toArray, List.set_cons_zero, List.set_cons_succ]
          first | refine heldb_skip (i := 9) (d := some 32) (by assumption) rfl rfl (by kernel_rfl) (fun _ _ _ h => h) rfl ?_ | (refine heldb_take (i := 9) (d := some 32) (v := ?qvb6_9) (by assumption) rfl rfl (by kernel_rfl) (fun _ _ _ h => h) ?qyb6_9 ?_; case qyb6_9 => (refine Or.inl ⟨rfl, fun wx hS => ?_⟩; go_simp; try with_reducible rfl))
          simp only [Act.put, List.setIfInBounds_toArray, List.set_cons_zero, List.set_cons_succ]
          first | refine heldb_skip (i := 10) (d := some 33) (by assumption) rfl rfl (by kernel_rfl) (fun _ _ _ h => h) rfl ?_ | (refine heldb_take (i := 10) (d := some 33) (v := ?qvb6_10) (by assumption) rfl rfl (by kernel_rfl) (fun _ _ _ h => h) ?qyb6_10 ?_; case qyb6_10 => (refine Or.inl ⟨rfl, fun wx hS => ?_⟩; go_simp; try with_reducible rfl))
          simp only [Act.put, List.setIfInBounds_toArray, List.set_cons_zero, List.set_cons_succ]
          first | refine heldb_skip (i := 11) (d := some 34) (by assumption) rfl rfl (by kernel_rfl) (fun _ _ _ h => h) rfl ?_ | (refine heldb_take (i := 11) (d := some 34) (v := ?qvb6_11) (by assumption) rfl rfl (by kernel_rfl) (fun _ _ _ h => h) ?qyb6_11 ?_; case qyb6_11 => (refine Or.inl ⟨rfl, fun wx hS => ?_⟩; go_simp; try with_reducible rfl))
          simp only [Act.put, List.setIfInBounds_toArray, List.set_cons_zero, List.set_cons_succ]
          first | refine heldb_skip (i := 12) (d := some 35) (by assumption) rfl rfl (by kernel_rfl) (fun _ _ _ h => h) rfl ?_ | (refine heldb_take (i := 12) (d := some 35) (v := ?qvb6_12) (by assumption) rfl rfl (by kernel_rfl) (fun _ _ _ h => h) ?qyb6_12 ?_; case qyb6_12 => (refine Or.inl ⟨rfl, fun wx hS => ?_⟩; go_simp; try with_reducible rfl))
          simp only [Act.put, List.setIfInBounds_toArray, List.set_cons_zero, List.set_cons_succ]
          first | refine heldb_skip (i := 13) (d := some 36) (by assumption) rfl rfl (by kernel_rfl) (fun _ _ _ h => h) rfl ?_ | (refine heldb_take (i := 13) (d := some 36) (v := ?qvb6_13) (by assumption) rfl rfl (by kernel_rfl) (fun _ _ _ h => h) ?qyb6_13 ?_; case qyb6_13 => (refine Or.inl ⟨rfl, fun wx hS => ?_⟩; go_simp; try with_reducible rfl))
          simp only [Act.put, List.setIfInBounds_toArray, List.set_cons_zero, List.set_cons_succ]
          first | refine heldb_skip (i := 14) (d := some 37) (by assumption) rfl rfl (by kernel_rfl) (fun _ _ _ h => h) rfl ?_ | (refine heldb_take (i := 14) (d := some 37) (v := ?qvb6_14) (by assumption) rfl rfl (by kernel_rfl) (fun _ _ _ h => h) ?qyb6_14 ?_; case qyb6_14 => (refine Or.inl ⟨rfl, fun wx hS => ?_⟩; go_simp; try with_reducible rfl))
          simp only [Act.put, List.setIfInBounds_toArray, List.set_cons_zero, List.set_cons_succ]
          first | refine heldb_skip (i := 15) (d := some 38) (by assumption) rfl rfl (by kernel_rfl) (fun _ _ _ h => h) rfl ?_ | (refine heldb_take (i := 15) (d := some 38) (v := ?qvb6_15) (by assumption) rfl rfl (by kernel_rfl) (fun _ _ _ h => h) ?qyb6_15 ?_; case qyb6_15 => (refine Or.inl ⟨rfl, fun wx hS => ?_⟩; go_simp; try with_reducible rfl))
          simp only [Act.put, List.setIfInBounds_toArray, List.set_cons_zero, List.set_cons_succ]
          first | refine heldb_skip (i := 16) (d := some 39) (by assumption) rfl rfl (by kernel_rfl) (fun _ _ _ h => h) rfl ?_ | (refine heldb_take (i := 16) (d := some 39) (v := ?qvb6_16) (by assumption) rfl rfl (by kernel_rfl) (fun _ _ _ h => h) ?qyb6_16 ?_; case qyb6_16 => (refine Or.inl ⟨rfl, fun wx hS => ?_⟩; go_simp; try with_reducible rfl))
          simp only [Act.put, List.setIfInBounds_toArray, List.set_cons_zero, List.set_cons_succ]
          first | refine heldb_skip (i := 17) (d := some 40) (by assumption) rfl rfl (by kernel_rfl) (fun _ _ _ h => h) rfl ?_ | (refine heldb_take (i := 17) (d := some 40) (v := ?qvb6_17) (by assumption) rfl rfl (by kernel_rfl) (fun _ _ _ h => h) ?qyb6_17 ?_; case qyb6_17 => (refine Or.inl ⟨rfl, fun wx hS => ?_⟩; go_simp; try with_reducible rfl))
          simp only [Act.put, List.setIfInBounds_toArray, List.set_cons_zero, List.set_cons_succ]
          first | refine heldb_skip (i := 18) (d := some 41) (by assumption) rfl rfl (by kernel_rfl) (fun _ _ _ h => h) rfl ?_ | (refine heldb_take (i := 18) (d := some 41) (v := ?qvb6_18) (by assumption) rfl rfl (by kernel_rfl) (fun _ _ _ h => h) ?qyb6_18 ?_; case qyb6_18 => (refine Or.inl ⟨rfl, fun wx hS => ?_⟩; go_simp; try with_reducible rfl))
          simp only [Act.put, List.setIfInBounds_toArray, List.set_cons_zero, List.set_cons_succ]
          first | refine heldb_skip (i := 19) (d := some 42) (by assumption) rfl rfl (by kernel_rfl) (fun _ _ _ h => h) rfl ?_ | (refine heldb_take (i := 19) (d := some 42) (v := ?qvb6_19) (by assumption) rfl rfl (by kernel_rfl) (fun _ _ _ h => h) ?qyb6_19 ?_; case qyb6_19 => (refine Or.inl ⟨rfl, fun wx hS => ?_⟩; go_simp; try with_reducible rfl))
          simp only [Act.put, List.setIfInBounds_toArray, List.set_cons_zero, List.set_cons_succ]
          refine heldb_take (i := 20) (d := some 43) (v := ?qvb6_20) (by assumption) rfl rfl (by kernel_rfl) (fun _ _ _ h => h) ?qyb6_20 ?_; case qyb6_20 => (refine Or.inl ⟨rfl, fun wx hS => ?_⟩; go_simp; try with_reducible rfl)
          simp only [Act.put, List.setIfInBounds_toArray, List.set_cons_zero, List.set_cons_succ]
          refine held_end (by kernel_rfl) ?_ _
          go_wp2
          go_ret2
          exact ⟨_, by rw [HS.out]; rfl, by rw [HS.out]; exact OwnF.new0 _ _ _ _ hbs, HB.out.drew.alloc hbs _⟩
        · have hr : firstOf (l.drop k) = (((l[k].toNat : Int), ((l.drop k).drop 3).take (l[k + 1].toNat * 256 + l[k + 2].toNat)), (l.drop k).drop (3 + (l[k + 1].toNat * 256 + l[k + 2].toNat)), 0) := by
            rw [firstOf, hd0, hg1, hg2, if_neg hz, if_neg (by omega), if_neg (by omega)]
          rw [hr, if_pos rfl] at hsp
          obtain ⟨N, hNN⟩ : ∃ N, N = l[k + 1].toNat * 256 + l[k + 2].toNat := ⟨_, rfl⟩
          rw [← hNN, List.drop_drop, List.drop_drop] at hsp
          obtain ⟨r, hr0⟩ : ∃ r, (if cap = k + 3 then some (⟨b, off, none⟩ : Addr) else some ⟨b, off + (k + 3), none⟩) = some r := by split <;> exact ⟨_, rfl⟩
          have HR : Hid (RB w w.heap.size (some r) (l.drop (k + 3)) (cap - (k + 3))) := by
            rw [show (if cap = k + 3 then some (⟨b, off, none⟩ : Addr) else (some (⟨b, off, none⟩ : Addr)).map (·.add (k + 3))) = some r by rw [← hr0, Option.map_some, Addr.add_lit]] at hcut
            exact hcut
          have HS := Lib.hid hsp
          have HB := Lib.hid hbel
          have HO := Lib.hid hown
          clear hs hsp hown hbel hc hr hd0 hne hz hg1 hg2 hcut H
          generalize l[k].toNat = x0 at *
          generalize l[k + 1].toNat = x1 at *
          generalize l[k + 2].toNat = x2 at *
          have hNi : 256 * (x1 : Int) + (x2 : Int) = (N : Int) := by omega
          have hle : ¬ (l.length : Int) - (k : Int) - 3 < (N : Int) := by omega
          have hNl : k + 3 + N ≤ l.length := by omega
          have hld : decide ((l.length : Int) - (k : Int) - 3 < (N : Int)) = false := by simp; omega
          have HNN := Lib.hid hNN
          clear hNN hN
          go_wp2_with fail
          have hw1 : IntKind.i64.wrap ((k : Int) + 1) = (k : Int) + 1 := by rw [IntKind.wrap_i64]; omega
          have hw2 : IntKind.i64.wrap ((k : Int) + 2) = (k : Int) + 2 := by rw [IntKind.wrap_i64]; omega
          have hn1 : ((k : Int) + 1).toNat = k + 1 := by omega
          have hn2 : ((k : Int) + 2).toNat = k + 2 := by omega
          have hp1 : (0 : Int) ≤ (k : Int) + 1 := by omega
          have hp2 : (0 : Int) ≤ (k : Int) + 2 := by omega
          have hw3 : IntKind.i64.wrap (256 * (x1 : Int)) = 256 * (x1 : Int) := by rw [IntKind.wrap_i64]; omega
          have hw4 : IntKind.i64.wrap (256 * (x1 : Int) + (x2 : Int)) = 256 * (x1 : Int) + (x2 : Int) := by rw [IntKind.wrap_i64]; omega
          have hw5 : IntKind.i64.wrap ((l.length : Int) - (k : Int) - 3) = (l.length : Int) - (k : Int) - 3 := by rw [IntKind.wrap_i64]; omega
          have hw6 : IntKind.i64.wrap (x1 : Int) = x1 := by rw [IntKind.wrap_i64]; omega
          have hw7 : IntKind.i64.wrap (x2 : Int) = x2 := by rw [IntKind.wrap_i64]; omega
          have hw8 : IntKind.i64.wrap ((l.length : Int) - (k : Int)) = (l.length : Int) - (k : Int) := by rw [IntKind.wrap_i64]; omega
          have hw9 : IntKind.i64.wrap (N : Int) = N := by rw [IntKind.wrap_i64]; omega
          have q1 := HQ1.out wr.drew (Below.refl _ _).drew
          have q2 := HQ2.out wr.drew (Below.refl _ _).drew
          refine heldb_begin w.heap.size (by kernel_rfl) (fun hS0 => ?_)
          refine heldb_take (i := 0) (d := some 23) (v := ?qvc6_0) (by assumption) rfl rfl (by kernel_rfl) (fun _ _ _ h => h) ?qyc6_0 ?_; case qyc6_0 => (refine Or.inl ⟨rfl, fun wx hS => ?_⟩; go_simp; try with_reducible rfl)
          simp only [Act.put, List.setIfInBounds_toArray, List.set_cons_zero, List.set_cons_succ]
          refine heldb_take (i := 1) (d := some 24) (v := ?qvc6_1) (by assumption) rfl rfl (by kernel_rfl) (fun _ _ _ h => h) ?qyc6_1 ?_; case qyc6_1 => (refine Or.inl ⟨rfl, fun wx hS => ?_⟩; go_simp; try with_reducible rfl)
          simp only [Act.put, List.setIfInBounds_toArray, List.set_cons_zero, List.set_cons_succ]
          refine heldb_take (i := 2) (d := some 25) (v := ?qvc6_2) (by assumption) rfl rfl (by kernel_rfl) (fun _ _ _ h => h) ?qyc6_2 ?_; case qyc6_2 => (refine Or.inl ⟨rfl, fun wx hS => ?_⟩; go_simp; try with_reducible rfl)
          simp only [Act.put, List.setIfInBounds_toArray, List.set_cons_zero, List.set_cons_succ]
          first | refine heldb_skip (i := 3) (d := some 26) (by assumption) rfl rfl (by kernel_rfl) (fun _ _ _ h => h) rfl ?_ | (refine heldb_take (i := 3) (d := some 26) (v := ?qvc6_3) (by assumption) rfl rfl (by kernel_rfl) (fun _ _ _ h => h) ?qyc6_3 ?_; case qyc6_3 => (refine Or.inl ⟨rfl, fun wx hS => ?_⟩; go_simp; try with_reducible rfl))
          simp only [Act.put, List.setIfInBounds_toArray, List.set_cons_zero, List.set_cons_succ]
          first | refine heldb_skip (i := 4) (d := some 27) (by assumption) rfl rfl (by kernel_rfl) (fun _ _ _ h => h) rfl ?_ | (refine heldb_take (i := 4) (d := some 27) (v := ?qvc6_4) (by assumption) rfl rfl (by kernel_rfl) (fun _ _ _ h => h) ?qyc6_4 ?_; case qyc6_4 => (refine Or.inl ⟨rfl, fun wx hS => ?_⟩; go_simp; try with_reducible rfl))
          simp only [Act.put, List.setIfInBounds_toArray, List.set_cons_zero, List.set_cons_succ]
          first | refine heldb_skip (i := 5) (d := some 28) (by assumption) rfl rfl (by kernel_rfl) (fun _ _ _ h => h) rfl ?_ | (refine heldb_take (i := 5) (d := some 28) (v := ?qvc6_5) (by assumption) rfl rfl (by kernel_rfl) (fun _ _ _ h => h) ?qyc6_5 ?_; case qyc6_5 => (refine Or.inl ⟨rfl, fun wx hS => ?_⟩; go_simp; try with_reducible rfl))
          simp only [Act.put, List.setIfInBounds_toArray, List.set_cons_zero, List.set_cons_succ]
          first | refine heldb_skip (i := 6) (d := some 29) (by assumption) rfl rfl (by kernel_rfl) (fun _ _ _ h => h) rfl ?_ | (refine heldb_take (i := 6) (d := some 29) (v := ?qvc6_6) (by assumption) rfl rfl (by kernel_rfl) (fun _ _ _ h => h) ?qyc6_6 ?_; case qyc6_6 => (refine Or.inl ⟨rfl, fun wx hS => ?_⟩; go_simp; try with_reducible rfl))
          simp only [Act.put, List.setIfInBounds_toArray, List.set_cons_zero, List.set_cons_succ]
          first | refine heldb_skip (i := 7) (d := some 30) (by assumption) rfl rfl (by kernel_rfl) (fun _ _ _ h => h) rfl ?_ | (refine heldb_take (i := 7) (d := some 30) (v := ?qvc6_7) (by assumption) rfl rfl (by kernel_rfl) (fun _ _ _ h => h) ?qyc6_7 ?_; case qyc6_7 => (refine Or.inl ⟨rfl, fun wx hS => ?_⟩; go_simp; try with_reducible rfl))
          simp only [Act.put, List.setIfInBounds_toArray, List.set_cons_zero, List.set_cons_succ]
          first | refine heldb_skip (i := 8) (d := some 31) (by assumption) rfl rfl (by kernel_rfl) (fun _ _ _ h => h) rfl ?_ | (refine heldb_take (i := 8) (d := some 31) (v := ?qvc6_8) (by assumption) rfl rfl (by kernel_rfl) (fun _ _ _ h => h) ?qyc6_8 ?_; case qyc6_8 => (refine Or.inl ⟨rfl, fun wx hS => ?_⟩; go_simp; try with_reducible rfl))
          simp only [Act.put, List.setIfInBounds_toArray, List.set_cons_zero, List.set_cons_succ]
          first | refine heldb_skip (i := 9) (d := some 32) (by assumption) rfl rfl (by kernel_rfl) (fun _ _ _ h => h) rfl ?_ | (refine heldb_take (i := 9) (d := some 32) (v := ?qvc6_9) (by assumption) rfl rfl (by kernel_rfl) (fun _ _ _ h => h) ?qyc6_9 ?_; case qyc6_9 => (refine Or.inl ⟨rfl, fun wx hS => ?_⟩; go_simp; try with_reducible rfl))
          simp only [Act.put, List.setIfInBounds_toArray, List.set_cons_zero, List.set_cons_succ]
          first | refine heldb_skip (i := 10) (d := some 33) (by assumption) rfl rfl (by kernel_rfl) (fun _ _ _ h => h) rfl ?_ | (refine heldb_take (i := 10) (d := some 33) (v := ?qvc6_10) (by assumption) rfl rfl (by kernel_rfl) (fun _ _ _ h => h) ?qyc6_10 ?_; case qyc6_10 => (refine Or.inl ⟨rfl, fun wx hS => ?_⟩; go_simp; try with_reducible rfl))
          simp only [Act.put, List.setIfInBounds_toArray, List.set_cons_zero, List.set_cons_succ]
          first | refine heldb_skip (i := 11) (d := some 34) (by assumption) rfl rfl (by kernel_rfl) (fun _ _ _ h => h) rfl ?_ | (refine heldb_take (i := 11) (d := some 34) (v := ?qvc6_11) (by assumption) rfl rfl (by kernel_rfl) (fun _ _ _ h => h) ?qyc6_11 ?_; case qyc6_11 => (refine Or.inl ⟨rfl, fun wx hS => ?_⟩; go_simp; try with_reducible rfl))
          simp only [Act.put, List.setIfInBounds_toArray, List.set_cons_zero, List.set_cons_succ]
          first | refine heldb_skip (i := 12) (d := some 35) (by assumption) rfl rfl (by kernel_rfl) (fun _ _ _ h => h) rfl ?_ | (refine heldb_take (i := 12) (d := some 35) (v := ?qvc6_12) (by assumption) rfl rfl (by kernel_rfl) (fun _ _ _ h => h) ?qyc6_12 ?_; case qyc6_12 => (refine Or.inl ⟨rfl, fun wx hS => ?_⟩; go_simp; try with_reducible rfl))
          simp only [Act.put, List.setIfInBounds_toArray, List.set_cons_zero, List.set_cons_succ]
          first | refine heldb_skip (i := 13) (d := some 36) (by assumption) rfl rfl (by kernel_rfl) (fun _ _ _ h => h) rfl ?_ | (refine heldb_take (i := 13) (d := some 36) (v := ?qvc6_13) (by assumption) rfl rfl (by kernel_rfl) (fun _ _ _ h => h) ?qyc6_13 ?_; case qyc6_13 => (refine Or.inl ⟨rfl, fun wx hS => ?_⟩; go_simp; try with_reducible rfl))
          simp only [Act.put, List.setIfInBounds_toArray, List.set_cons_zero, List.set_cons_succ]
          first | refine heldb_skip (i := 14) (d := some 37) (by assumption) rfl rfl (by kernel_rfl) (fun _ _ _ h => h) rfl ?_ | (refine heldb_take (i := 14) (d := some 37) (v := ?qvc6_14) (by assumption) rfl rfl (by kernel_rfl) (fun _ _ _ h => h) ?qyc6_14 ?_; case qyc6_14 => (refine Or.inl ⟨rfl, fun wx hS => ?_⟩; go_simp; try with_reducible rfl))
          simp only [Act.put, List.setIfInBounds_toArray, List.set_cons_zero, List.set_cons_succ]
          first | refine heldb_skip (i := 15) (d := some 38) (by assumption) rfl rfl (by kernel_rfl) (fun _ _ _ h => h) rfl ?_ | (refine heldb_take (i := 15) (d := some 38) (v := ?qvc6_15) (by assumption) rfl rfl (by kernel_rfl) (fun _ _ _ h => h) ?qyc6_15 ?_; case qyc6_15 => (refine Or.inl ⟨rfl, fun wx hS => ?_⟩; go_simp; try with_reducible rfl))
          simp only [Act.put, List.setIfInBounds_toArray, List.set_cons_zero, List.set_cons_succ]
          first | refine heldb_skip (i := 16) (d := some 39) (by assumption) rfl rfl (by kernel_rfl) (fun _ _ _ h => h) rfl ?_ | (refine heldb_take (i := 16) (d := some 39) (v := ?qvc6_16) (by assumption) rfl rfl (by kernel_rfl) (fun _ _ _ h => h) ?qyc6_16 ?_; case qyc6_16 => (refine Or.inl ⟨rfl, fun wx hS => ?_⟩; go_simp; try with_reducible rfl))
          simp only [Act.put, List.setIfInBounds_toArray, List.set_cons_zero, List.set_cons_succ]
          first | refine heldb_skip (i := 17) (d := some 40) (by assumption) rfl rfl (by kernel_rfl) (fun _ _ _ h => h) rfl ?_ | (refine heldb_take (i := 17) (d := some 40) (v := ?qvc6_17) (by assumption) rfl rfl (by kernel_rfl) (fun _ _ _ h => h) ?qyc6_17 ?_; case qyc6_17 => (refine Or.inl ⟨rfl, fun wx hS => ?_⟩; go_simp; try with_reducible rfl))
          simp only [Act.put, List.setIfInBounds_toArray, List.set_cons_zero, List.set_cons_succ]
          first | refine heldb_skip (i := 18) (d := some 41) (by assumption) rfl rfl (by kernel_rfl) (fun _ _ _ h => h) rfl ?_ | (refine heldb_take (i := 18) (d := some 41) (v := ?qvc6_18) (by assumption) rfl rfl (by kernel_rfl) (fun _ _ _ h => h) ?qyc6_18 ?_; case qyc6_18 => (refine Or.inl ⟨rfl, fun wx hS => ?_⟩; go_simp; try with_reducible rfl))
          simp only [Act.put, List.setIfInBounds_toArray, List.set_cons_zero, List.set_cons_succ]
          first | refine heldb_skip (i := 19) (d := some 42) (by assumption) rfl rfl (by kernel_rfl) (fun _ _ _ h => h) rfl ?_ | (refine heldb_take (i := 19) (d := some 42) (v := ?qvc6_19) (by assumption) rfl rfl (by kernel_rfl) (fun _ _ _ h => h) ?qyc6_19 ?_; case qyc6_19 => (refine Or.inl ⟨rfl, fun wx hS => ?_⟩; go_simp; try with_reducible rfl))
          simp only [Act.put, List.setIfInBounds_toArray, List.set_cons_zero, List.set_cons_succ]
          refine heldb_take (i := 20) (d := some 43) (v := ?qvc6_20) (by assumption) rfl rfl (by kernel_rfl) (fun _ _ _ h => h) ?qyc6_20 ?_; case qyc6_20 => (refine Or.inl ⟨rfl, fun wx hS => ?_⟩; go_simp; try with_reducible rfl)
          simp only [Act.put, List.setIfInBounds_toArray, List.set_cons_zero, List.set_cons_succ]
          refine held_end (by kernel_rfl) ?_ _
          go_wp2_with fail
          clear q1 q2
          have q1 := HQ1.out wr.drew.drew (Below.refl _ _).drew.drew
          have q2 := HQ2.out wr.drew.drew (Below.refl _ _).drew.drew
          refine heldb_begin w.heap.size (by kernel_rfl) (fun hS1 => ?_)
          refine heldb_take (i := 0) (d := some 45) (v := ?qv8_0) (by assumption) rfl rfl (by kernel_rfl) (fun _ _ _ h => h) ?qy8_0 ?_; case qy8_0 => (refine Or.inl ⟨rfl, fun wx hS => ?_⟩; go_simp; try with_reducible rfl)
          simp only [Act.put, List.setIfInBounds_toArray, List.set_cons_zero, List.set_cons_succ]
          refine heldb_take (i := 1) (d := some 46) (v := ?qv8_1) (by assumption) rfl rfl (by kernel_rfl) (fun _ _ _ h => h) ?qy8_1 ?_; case qy8_1 => (refine Or.inl ⟨rfl, fun wx hS => ?_⟩; go_simp; try with_reducible rfl)
          simp only [Act.put, List.setIfInBounds_toArray, List.set_cons_zero, List.set_cons_succ]
          refine heldb_take (i := 2) (d := some 47) (v := ?qv8_2) (by assumption) rfl rfl (by kernel_rfl) (fun _ _ _ h => h) ?qy8_2 ?_; case qy8_2 => (refine Or.inl ⟨rfl, fun wx hS => ?_⟩; go_simp; try with_reducible rfl)
          simp only [Act.put, List.setIfInBounds_toArray, List.set_cons_zero, List.set_cons_succ]
          refine heldb_take (i := 3) (d := some 48) (v := ?qv8_3) (by assumption) rfl rfl (by kernel_rfl) (fun _ _ _ h => h) ?qy8_3 ?_; case qy8_3 => (refine Or.inl ⟨rfl, fun wx hS => ?_⟩; go_simp; try with_reducible rfl)
          simp only [Act.put, List.setIfInBounds_toArray, List.set_cons_zero, List.set_cons_succ]
          refine heldb_take (i := 4) (d := some 49) (v := ?qv8_4) (by assumption) rfl rfl (by kernel_rfl) (fun _ _ _ h => h) ?qy8_4 ?_; case qy8_4 => (refine Or.inl ⟨rfl, fun wx hS => ?_⟩; go_simp; try with_reducible rfl)
          simp only [Act.put, List.setIfInBounds_toArray, List.set_cons_zero, List.set_cons_succ]
          refine heldb_take (i := 5) (d := some 50) (v := ?qv8_5) (by assumption) rfl rfl (by kernel_rfl) (fun _ _ _ h => h) ?qy8_5 ?_; case qy8_5 => (refine Or.inl ⟨rfl, fun wx hS => ?_⟩; go_simp; try with_reducible rfl)
          simp only [Act.put, List.setIfInBounds_toArray, List.set_cons_zero, List.set_cons_succ]
          refine heldb_take (i := 6) (d := some 51) (v := ?qv8_6) (by assumption) rfl rfl (by kernel_rfl) (fun _ _ _ h => h) ?qy8_6 ?_; case qy8_6 => (refine Or.inl ⟨rfl, fun wx hS => ?_⟩; go_simp; try with_reducible rfl)
          simp only [Act.put, List.setIfInBounds_toArray, List.set_cons_zero, List.set_cons_succ]
          refine heldb_take (i := 7) (d := some 52) (v := ?qv8_7) (by assumption) rfl rfl (by kernel_rfl) (fun _ _ _ h => h) ?qy8_7 ?_; case qy8_7 => (refine Or.inl ⟨rfl, fun wx hS => ?_⟩; go_simp; try with_reducible rfl)
          simp only [Act.put, List.setIfInBounds_toArray, List.set_cons_zero, List.set_cons_succ]
          refine heldb_take (i := 8) (d := some 53) (v := ?qv8_8) (by assumption) rfl rfl (by kernel_rfl) (fun _ _ _ h => h) ?qy8_8 ?_; case qy8_8 => (refine Or.inl ⟨rfl, fun wx hS => ?_⟩; go_simp; try with_reducible rfl)
          simp only [Act.put, List.setIfInBounds_toArray, List.set_cons_zero, List.set_cons_succ]
          refine heldb_take (i := 9) (d := some 54) (v := ?qv8_9) (by assumption) rfl rfl (by kernel_rfl) (fun _ _ _ h => h) ?qy8_9 ?_; case qy8_9 => (refine Or.inl ⟨rfl, fun wx hS => ?_⟩; go_simp; try with_reducible rfl)
          simp only [Act.put, List.setIfInBounds_toArray, List.set_cons_zero, List.set_cons_succ]
          refine heldb_take (i := 10) (d := some 55) (v := ?qv8_10) (by assumption) rfl rfl (by kernel_rfl) (fun _ _ _ h => h) ?qy8_10 ?_; case qy8_10 => (refine Or.inl ⟨rfl, fun wx hS => ?_⟩; go_simp; try with_reducible rfl)
          simp only [Act.put, List.setIfInBounds_toArray, List.set_cons_zero, List.set_cons_succ]
          refine heldb_take (i := 11) (d := some 56) (v := ?qv8_11) (by assumption) rfl rfl (by kernel_rfl) (fun _ _ _ h => h) ?qy8_11 ?_; case qy8_11 => (refine Or.inl ⟨rfl, fun wx hS => ?_⟩; go_simp; try with_reducible rfl)
          simp only [Act.put, List.setIfInBounds_toArray, List.set_cons_zero, List.set_cons_succ]
          refine heldb_take (i := 12) (d := some 57) (v := ?qv8_12) (by assumption) rfl rfl (by kernel_rfl) (fun _ _ _ h => h) ?qy8_12 ?_; case qy8_12 => (refine Or.inl ⟨rfl, fun wx hS => ?_⟩; go_simp; try with_reducible rfl)
          simp only [Act.put, List.setIfInBounds_toArray, List.set_cons_zero, List.set_cons_succ]
          refine heldb_take (i := 13) (d := some 58) (v := ?qv8_13) (by assumption) rfl rfl (by kernel_rfl) (fun _ _ _ h => h) ?qy8_13 ?_; case qy8_13 => (refine Or.inl ⟨rfl, fun wx hS => ?_⟩; go_simp; try with_reducible rfl)
          simp only [Act.put, List.setIfInBounds_toArray, List.set_cons_zero, List.set_cons_succ]
          refine heldb_take (i := 14) (d := some 7) (v := ?qv8_14) (by assumption) rfl rfl (by kernel_rfl) (fun _ _ _ h => h) ?qy8_14 ?_; case qy8_14 => (refine Or.inl ⟨rfl, fun wx hS => ?_⟩; go_simp; try with_reducible rfl)
          simp only [Act.put, List.setIfInBounds_toArray, List.set_cons_zero, List.set_cons_succ]
          refine held_end (by kernel_rfl) ?_ _
          go_wp2_with fail
          have HB3 : Hid (Below w.heap.size w wr.drew.drew) := HB.out.drew.drew
          have HO3 := HO.out
          change OwnF wr.drew.drew _ _ _ _ _ at HO3
          replace HO3 := Lib.hid HO3
          have hs3 : w.heap.size ≤ wr.drew.drew.heap.size := hbs
          have q0 := HQ0.out wr.drew.drew.drew (Below.refl _ _).drew.drew.drew
          obtain ⟨bs, hbs0⟩ : ∃ bs, bs = (l.drop (k + 3)).take N := ⟨_, rfl⟩
          have hbl : bs.length = N := by rw [hbs0, List.length_take, List.length_drop]; omega
          have HRN : Hid (RB w w.heap.size (some r) bs (cap - (k + 3))) := by rw [hbs0]; exact HR.out.head N
          rw [← hbs0] at HS
          have hsub : k + 3 + N - (k + 3) = bs.length := by omega
          have hv0 : IntKind.i64.wrap (x0 : Int) = x0 := by rw [IntKind.wrap_i64]; omega
          have hv1 : IntKind.i64.wrap ((k : Int) + 3) = (k : Int) + 3 := by rw [IntKind.wrap_i64]; omega
          have hv2 : IntKind.i64.wrap ((k : Int) + 3 + (N : Int)) = (k : Int) + 3 + (N : Int) := by rw [IntKind.wrap_i64]; omega
          have hv3 : ((k : Int) + 3).toNat = k + 3 := by omega
          have hv4 : ((k : Int) + 3 + (N : Int)).toNat = k + 3 + N := by omega
          have hv5 : (0 : Int) ≤ (k : Int) + 3 := by omega
          have hv6 : (k : Int) + 3 ≤ (k : Int) + 3 + (N : Int) := by omega
          have hv7 : (k : Int) + 3 + (N : Int) ≤ (cap : Int) := by omega
          have hv8 : k + 3 ≤ k + 3 + N := by omega
          have hv9 : k + 3 + N ≤ cap := by omega
          have HBL := Lib.hid hbl
          clear q1 q2 hS0 hS1 hbs0 hbl HQ0 HQ1 HQ2
          generalize wr.drew.drew = W3 at *
          refine heldb_begin w.heap.size (by kernel_rfl) (fun hS2 => ?_)
          refine heldb_take (i := 0) (d := some 59) (v := ?qv9_0) (by assumption) rfl rfl (by kernel_rfl) (fun _ _ _ h => h) ?qy9_0 ?_; case qy9_0 => (refine Or.inl ⟨rfl, fun wx hS => ?_⟩; go_simp; try with_reducible rfl)
          simp only [Act.put, List.setIfInBounds_toArray, List.set_cons_zero, List.set_cons_succ]
          refine heldb_take (i := 1) (d := some 60) (v := ?qv9_1) (by assumption) rfl rfl (by kernel_rfl) (fun _ _ _ h => h) ?qy9_1 ?_; case qy9_1 => (refine Or.inl ⟨rfl, fun wx hS => ?_⟩; go_simp; try with_reducible rfl)
          simp only [Act.put, List.setIfInBounds_toArray, List.set_cons_zero, List.set_cons_succ]
          refine heldb_take (i := 2) (d := some 61) (v := ?qv9_2) (by assumption) rfl rfl (by kernel_rfl) (fun _ _ _ h => h) ?qy9_2 ?_; case qy9_2 => (refine Or.inl ⟨rfl, fun wx hS => ?_⟩; go_simp; try with_reducible rfl)
          simp only [Act.put, List.setIfInBounds_toArray, List.set_cons_zero, List.set_cons_succ]
          refine heldb_take (i := 3) (d := some 62) (v := ?qv9_3) (by assumption) rfl rfl (by kernel_rfl) (fun _ _ _ h => h) ?qy9_3 ?_; case qy9_3 => (refine Or.inl ⟨rfl, fun wx hS => ?_⟩; go_simp; try with_reducible rfl)
          simp only [Act.put, List.setIfInBounds_toArray, List.set_cons_zero, List.set_cons_succ]
          refine heldb_take (i := 4) (d := some 63) (v := ?qv9_4) (by assumption) rfl rfl (by kernel_rfl) (fun _ _ _ h => h) ?qy9_4 ?_; case qy9_4 => (refine Or.inl ⟨rfl, fun wx hS => ?_⟩; go_simp; try with_reducible rfl)
          simp only [Act.put, List.setIfInBounds_toArray, List.set_cons_zero, List.set_cons_succ]
          refine heldb_take (i := 5) (d := some 64) (v := ?qv9_5) (by assumption) rfl rfl (by kernel_rfl) (fun _ _ _ h => h) ?qy9_5 ?_; case qy9_5 => (refine Or.inl ⟨rfl, fun wx hS => ?_⟩; go_simp; try with_reducible rfl)
          simp only [Act.put, List.setIfInBounds_toArray, List.set_cons_zero, List.set_cons_succ]
          refine heldb_take (i := 7) (d := some 66) (v := ?qv9_7) (by assumption) rfl rfl (by kernel_rfl) (fun _ _ _ h => h) ?qy9_7 ?_; case qy9_7 => (refine Or.inl ⟨rfl, fun wx hS => ?_⟩; go_simp; try with_reducible rfl)
          simp only [Act.put, List.setIfInBounds_toArray, List.set_cons_zero, List.set_cons_succ]
          refine heldb_take (i := 8) (d := some 67) (v := ?qv9_8) (by assumption) rfl rfl (by kernel_rfl) (fun _ _ _ h => h) ?qy9_8 ?_; case qy9_8 => (refine Or.inl ⟨rfl, fun wx hS => ?_⟩; go_simp; try with_reducible rfl)
          simp only [Act.put, List.setIfInBounds_toArray, List.set_cons_zero, List.set_cons_succ]
          refine heldb_take (i := 9) (d := some 68) (v := ?qv9_9) (by assumption) rfl rfl (by kernel_rfl) (fun _ _ _ h => h) ?qy9_9 ?_; case qy9_9 => (refine Or.inl ⟨rfl, fun wx hS => ?_⟩; go_simp; try with_reducible rfl)
          simp only [Act.put, List.setIfInBounds_toArray, List.set_cons_zero, List.set_cons_succ]
          refine heldb_take (i := 10) (d := some 69) (v := ?qv9_10) (by assumption) rfl rfl (by kernel_rfl) (fun _ _ _ h => h) ?qy9_10 ?_; case qy9_10 => (refine Or.inl ⟨rfl, fun wx hS => ?_⟩; go_simp; try with_reducible rfl)
          simp only [Act.put, List.setIfInBounds_toArray, List.set_cons_zero, List.set_cons_succ]
          refine heldb_take (i := 11) (d := some 70) (v := ?qv9_11) (by assumption) rfl rfl (by kernel_rfl) (fun _ _ _ h => h) ?qy9_11 ?_; case qy9_11 => (refine Or.inl ⟨rfl, fun wx hS => ?_⟩; go_simp; try with_reducible rfl)
          simp only [Act.put, List.setIfInBounds_toArray, List.set_cons_zero, List.set_cons_succ]
          refine heldb_take (i := 12) (d := some 71) (v := ?qv9_12) (by assumption) rfl rfl (by kernel_rfl) (fun _ _ _ h => h) ?qy9_12 ?_; case qy9_12 => (refine Or.inl ⟨rfl, fun wx hS => ?_⟩; go_simp; try with_reducible rfl)
          simp only [Act.put, List.setIfInBounds_toArray, List.set_cons_zero, List.set_cons_succ]
          refine heldb_take (i := 13) (d := some 72) (v := ?qv9_13) (by assumption) rfl rfl (by kernel_rfl) (fun _ _ _ h => h) ?qy9_13 ?_; case qy9_13 => (refine Or.inl ⟨rfl, fun wx hS => ?_⟩; go_simp; try with_reducible rfl)
          simp only [Act.put, List.setIfInBounds_toArray, List.set_cons_zero, List.set_cons_succ]
          refine heldb_take (i := 14) (d := some 73) (v := ?qv9_14) (by assumption) rfl rfl (by kernel_rfl) (fun _ _ _ h => h) ?qy9_14 ?_; case qy9_14 => (refine Or.inl ⟨rfl, fun wx hS => ?_⟩; go_simp; try with_reducible rfl)
          simp only [Act.put, List.setIfInBounds_toArray, List.set_cons_zero, List.set_cons_succ]
          refine heldb_one (i := 6) rfl (by kernel_rfl) rfl (fun K hK => ?_)
          go_simp
          refine hK.out _ _ (below_dd ((Below.refl _ W3).alloc hs3 _)) (fun hS6 => ?_)
          clear hK K
          refine heldb_one (i := 15) rfl (by kernel_rfl) rfl (fun K hK => ?_)
          refine wp_appB (d := some 74) byteT rfl (.tmp 65) (.tmp 73) rfl (OwnB.new0 W3 w.heap.size _ hs3).drew (((HRN.out.below HB3.out).alloc hs3 _).drew) rfl rfl (by simp; omega) (by simp; omega) ?_
          intro v5 w5 hown5 hg5 hat5
          rw [List.nil_append] at hown5
          have hW35 : Below W3.heap.size W3 w5 := ((Below.refl W3.heap.size W3).alloc (Nat.le_refl _) _).drew.grown hg5 (by simp) (fun k hk => by simp [Value.ownBlock] at hk; omega)
          obtain ⟨V5, c5, rfl, -, -⟩ := hown5.shape
          refine hK.out _ _ (hS6.grown hg5 (by simp; omega) (fun k hk => by simp [Value.ownBlock] at hk; omega)) (fun hS15 => ?_)
          have HO5 := Lib.hid hown5
          have HW35 := Lib.hid hW35
          have hs5 := hW35.size
          clear hK K hown5 hg5 hat5 hW35
          simp only [Act.put, List.setIfInBounds_toArray, List.set_cons_zero, List.set_cons_succ]
          refine heldb_take (i := 16) (d := some 75) (v := ?qv9_16) (by assumption) rfl rfl (by kernel_rfl) (fun _ _ _ h => h) ?qy9_16 ?_; case qy9_16 => (refine Or.inl ⟨rfl, fun wx hS => ?_⟩; go_simp; try with_reducible rfl)
          simp only [Act.put, List.setIfInBounds_toArray, List.set_cons_zero, List.set_cons_succ]
          refine heldb_one (i := 17) rfl (by kernel_rfl) rfl (fun K hK => ?_)
          go_simp
          refine hK.out _ _ (hS15.alloc (by omega) _) (fun hS17 => ?_)
          clear hK K
          refine heldb_one (i := 18) rfl (by kernel_rfl) rfl (fun K hK => ?_)
          refine wp_appF (d := some 77) fieldT (by decide) rfl (.tmp 59) (.tmp 76) rfl (f := ((x0 : Int), bs)) (u := .slice V5 bs.length c5) (ad := ⟨w5.heap.size, 0, none⟩) (OwnF.below HO3.out (HW35.out.alloc hs5 _)) (HO5.out.alloc _) (by simp [go_sem]) (by simp [go_sem, Addr.add]) rfl rfl (by omega) (by simp; omega) ?_
          intro v8 w8 hown8 hg8
          refine hK.out _ _ (hS17.grown hg8 (by simp; omega) (fun k hk => (HO3.out.lt k hk).1)) (fun hS18 => ?_)
          have HO8 := Lib.hid hown8
          clear hK K hown8 hg8
          simp only [Act.put, List.setIfInBounds_toArray, List.set_cons_zero, List.set_cons_succ]
          refine heldb_take (i := 19) (d := some 4) (v := ?qv9_19) (by assumption) rfl rfl (by kernel_rfl) (fun _ _ _ h => h) ?qy9_19 ?_; case qy9_19 => (refine Or.inl ⟨rfl, fun wx hS => ?_⟩; go_simp; try with_reducible rfl)
          simp only [Act.put, List.setIfInBounds_toArray, List.set_cons_zero, List.set_cons_succ]
          refine held_end (by kernel_rfl) ?_ _
          clear hsub hv0 hv1 hv2 hv3 hv4 hw1 hw2 hw3 hw4 hw5 hw6 hw7 hw8 hw9 hn1 hn2 hNi hr0 q0 hld h3d
          go_wp2
          go_roundw
          case rel =>
            have hB := HB3.out.trans (below_undrew hS18)
            have hN' := HBL.out
            exact ⟨g, k + (3 + N), acc ++ [((x0 : Int), bs)], by go_num, by omega, HO8.out, hB, by rw [HS.out], by omega, by simp; omega⟩
          case measure => simp [intOf]; omega
    · have hd : l.drop k = [] := List.drop_eq_nil_of_le (by omega)
      have hsv : splitOf l = (acc, 0) := by rw [hs, hd]; cases f <;> simp [splitF]
      have HS := Lib.hid hsv
      have HO := Lib.hid hown
      clear hs hsv hown hd
      go_wp2
      go_ret2
      exact ⟨_, by rw [HS.out]; rfl, by rw [HS.out]; exact HO.out, hbel⟩
end Go.Proofs.YtnfmbgmncdodkaaDoor
