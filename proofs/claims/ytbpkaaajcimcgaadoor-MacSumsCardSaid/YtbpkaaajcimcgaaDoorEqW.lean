/- The walk of MacEqual. -/
import Derived.Test.YtbpkaaajcimcgaaDoorSpk
import Derived.Test.YtbpkaaajcimcgaaDoorEq
namespace Go.Proofs.YtbpkaaajcimcgaaDoor
open Go.RowKit

theorem yields_conv {P : Program} {ops : Array Oper} {S : World → Prop} {oi : Oper} {a : Act} {s t : TypeId} {u v : Value} (x : Operand) (ho : oi.op = .convert s t x) (hw : Region.wanted oi (yielded ops a.tmps) = true) (hx : a.eval x = u)
    (h : ∀ wx, S wx → (convert s t u).run P wx = .ok v wx) : YieldsIf P ops S oi v a := by
  refine .inl ⟨hw, fun wx hS => ?_⟩
  unfold execOp
  simp only [ho, hx, Sem.run_bind, Sem.run_pure, Result.andThen_ok, h wx hS]
set_option maxRecDepth 10000 in
set_option maxHeartbeats 400000 in
theorem walk_MacEqual (w : World) (hT : TB w) (A1 : Option Addr) (l1 : List UInt8) (cap1 : Nat) (h1 : RB w w.heap.size A1 l1 cap1) (A2 : Option Addr) (l2 : List UInt8) (cap2 : Nat) (h2 : RB w w.heap.size A2 l2 cap2) :
    Calls Tryd.prog 4 #[.slice A1 l1.length cap1, .slice A2 l2.length cap2] w fun e w' => e = .returned (.bool true) ∧ Below w.heap.size w w' := by
  have HT := Lib.hid hT
  obtain ⟨n1, hn1⟩ : ∃ n, l1.length = n := ⟨_, rfl⟩
  obtain ⟨n2, hn2⟩ : ∃ n, l2.length = n := ⟨_, rfl⟩
  rw [hn1, hn2]
  have HN1 := Lib.hid hn1
  have HN2 := Lib.hid hn2
  have H1 := Lib.hid h1
  have H2 := Lib.hid h2
  clear hT h1 h2 hn1 hn2
  by_cases hb1 : 10000 < n1
  · have hb1i : (10000 : Int) < (n1 : Int) := by omega
    go_enter Tryd.func4, Tryd.ntmps4
    go_wp2_with (go_at_call 8; refine (speaks_any _ HT.out).mono ?_; rintro e w1 ⟨rfl, g1⟩; have G1 := Lib.hid (below_of_none g1); clear g1)
    go_ret
    exact ⟨rfl, G1.out⟩
  · have hb1i : ¬ ((10000 : Int) < (n1 : Int)) := by omega
    by_cases hb2 : 10000 < n2
    · have hb2i : (10000 : Int) < (n2 : Int) := by omega
      go_enter Tryd.func4, Tryd.ntmps4
      go_wp2_with (go_at_call 8; refine (speaks_any _ HT.out).mono ?_; rintro e w1 ⟨rfl, g1⟩; have G1 := Lib.hid (below_of_none g1); clear g1)
      go_ret
      exact ⟨rfl, G1.out⟩
    · have hb2i : ¬ ((10000 : Int) < (n2 : Int)) := by omega
      have HB1 := Lib.hid (show n1 ≤ 10000 by omega)
      have HB2 := Lib.hid (show n2 ≤ 10000 by omega)
      go_enter Tryd.func4, Tryd.ntmps4
      go_wp2_with (go_at_call 8; refine (speaks_any _ HT.out).mono ?_; rintro e w1 ⟨rfl, g1⟩; have G1 := Lib.hid (below_of_none g1); clear g1)
      have HR1 := Lib.hid (show RB w1.drew w1.drew.heap.size A1 l1 cap1 from (H1.out.below G1.out).more G1.out.size)
      have HR2 := Lib.hid (show RB w1.drew w1.drew.heap.size A2 l2 cap2 from (H2.out.below G1.out).more G1.out.size)
      have q1 := fun wx (h : Below w1.drew.heap.size w1.drew wx) => str_from byteT Tryd.underlying9 HR1.out (Nat.le_refl _) wx h
      have q2 := fun wx (h : Below w1.drew.heap.size w1.drew wx) => str_from byteT Tryd.underlying9 HR2.out (Nat.le_refl _) wx h
      rw [HN1.out] at q1
      rw [HN2.out] at q2
      obtain ⟨c, hcd⟩ : ∃ c, c = decide (l1 = l2) := ⟨_, rfl⟩
      have hce : (l1 == l2) = c := by rw [hcd]; exact Bool.eq_iff_iff.2 (by rw [beq_iff_eq, decide_eq_true_iff])
      have HCD := Lib.hid hcd
      clear hcd
      refine heldb_begin w1.drew.heap.size (by kernel_rfl) (fun hS1 => ?_)
      refine heldb_take (i := 0) (d := some 15) (v := ?qv5_0) (by assumption) rfl rfl (by kernel_rfl) (fun _ _ _ h => h) ?qy5_0 ?_; case qy5_0 => (refine Or.inl ⟨rfl, fun wx hS => ?_⟩; go_simp; try with_reducible rfl)
      simp only [Act.put, List.setIfInBounds_toArray, List.set_cons_zero, List.set_cons_succ]
      refine heldb_take (i := 1) (d := some 16) (v := ?qv5_1) (by assumption) rfl rfl (by kernel_rfl) (fun _ _ _ h => h) ?qy5_1 ?_; case qy5_1 => (refine Or.inl ⟨rfl, fun wx hS => ?_⟩; go_simp; try with_reducible rfl)
      simp only [Act.put, List.setIfInBounds_toArray, List.set_cons_zero, List.set_cons_succ]
      refine heldb_take (i := 3) (d := some 18) (v := ?qv5_3) (by assumption) rfl rfl (by kernel_rfl) (fun _ _ _ h => h) ?qy5_3 ?_; case qy5_3 => (refine Or.inl ⟨rfl, fun wx hS => ?_⟩; go_simp; try with_reducible rfl)
      simp only [Act.put, List.setIfInBounds_toArray, List.set_cons_zero, List.set_cons_succ]
      refine heldb_take (i := 4) (d := some 19) (v := _) (by assumption) rfl rfl (by kernel_rfl) (fun _ _ _ h => h) (yields_conv (.tmp 18) rfl rfl rfl q1) ?_
      simp only [Act.put, List.setIfInBounds_toArray, List.set_cons_zero, List.set_cons_succ]
      refine heldb_take (i := 5) (d := some 20) (v := ?qv5_5) (by assumption) rfl rfl (by kernel_rfl) (fun _ _ _ h => h) ?qy5_5 ?_; case qy5_5 => (refine Or.inl ⟨rfl, fun wx hS => ?_⟩; go_simp; try with_reducible rfl)
      simp only [Act.put, List.setIfInBounds_toArray, List.set_cons_zero, List.set_cons_succ]
      refine heldb_take (i := 6) (d := some 21) (v := _) (by assumption) rfl rfl (by kernel_rfl) (fun _ _ _ h => h) (yields_conv (.tmp 20) rfl rfl rfl q2) ?_
      simp only [Act.put, List.setIfInBounds_toArray, List.set_cons_zero, List.set_cons_succ]
      refine heldb_take (i := 7) (d := some 22) (v := ?qv5_7) (by assumption) rfl rfl (by kernel_rfl) (fun _ _ _ h => h) ?qy5_7 ?_; case qy5_7 => (refine Or.inl ⟨rfl, fun wx hS => ?_⟩; go_simp; try with_reducible rfl)
      simp only [Act.put, List.setIfInBounds_toArray, List.set_cons_zero, List.set_cons_succ]
      refine heldb_one (i := 2) rfl (by kernel_rfl) rfl (fun K hK => ?_)
      go_simp
      refine (equal_any n1 cap1 n2 cap2 A1 A2 l1 l2 _ HN1.out (by have := HB1.out; omega) HR1.out HN2.out (by have := HB2.out; omega) HR2.out).mono ?_
      rintro e w3 ⟨rfl, g3⟩
      rw [← HCD.out]
      have hb3 := below_of_none g3
      refine hK.out _ _ hb3 (fun hS3 => ?_)
      have HB3 := Lib.hid hb3
      clear hK K g3 hb3
      refine heldb_take (i := 8) (d := some 23) (v := ?qv5_8) (by assumption) rfl rfl (by kernel_rfl) (fun _ _ _ h => h) ?qy5_8 ?_; case qy5_8 => (refine Or.inl ⟨rfl, fun wx hS => ?_⟩; go_simp; try with_reducible rfl)
      simp only [Act.put, List.setIfInBounds_toArray, List.set_cons_zero, List.set_cons_succ]
      refine heldb_take (i := 9) (d := some 24) (v := ?qv5_9) (by assumption) rfl rfl (by kernel_rfl) (fun _ _ _ h => h) ?qy5_9 ?_; case qy5_9 => (refine Or.inl ⟨rfl, fun wx hS => ?_⟩; go_simp; try with_reducible rfl)
      simp only [Act.put, List.setIfInBounds_toArray, List.set_cons_zero, List.set_cons_succ]
      first | refine heldb_skip (i := 10) (d := some 25) (by assumption) rfl rfl (by kernel_rfl) (fun _ _ _ h => h) rfl ?_ | (refine heldb_take (i := 10) (d := some 25) (v := ?qv5_10) (by assumption) rfl rfl (by kernel_rfl) (fun _ _ _ h => h) ?qy5_10 ?_; case qy5_10 => (refine Or.inl ⟨rfl, fun wx hS => ?_⟩; go_simp; try with_reducible rfl))
      simp only [Act.put, List.setIfInBounds_toArray, List.set_cons_zero, List.set_cons_succ]
      first | refine heldb_skip (i := 12) (d := some 27) (by assumption) rfl rfl (by kernel_rfl) (fun _ _ _ h => h) rfl ?_ | (refine heldb_take (i := 12) (d := some 27) (v := ?qv5_12) (by assumption) rfl rfl (by kernel_rfl) (fun _ _ _ h => h) ?qy5_12 ?_; case qy5_12 => (refine Or.inl ⟨rfl, fun wx hS => ?_⟩; go_simp; try with_reducible rfl))
      simp only [Act.put, List.setIfInBounds_toArray, List.set_cons_zero, List.set_cons_succ]
      refine heldb_one (i := 11) rfl (by kernel_rfl) rfl (fun K hK => ?_)
      go_simp
      refine hK.out _ _ (hS3.alloc HB3.out.size _) (fun hS11 => ?_)
      clear hK K
      refine heldb_one (i := 13) rfl (by kernel_rfl) rfl (fun K hK => ?_)
      refine wp_appB (d := some 28) byteT rfl (.tmp 26) (.tmp 27) rfl (OwnB.new0 w3 w3.heap.size _ (Nat.le_refl _)) ((HR1.out.below HB3.out).alloc HB3.out.size _) rfl (by rw [HN1.out]; rfl) (by rw [HN1.out]; have := HB1.out; simp; omega) (by simp) ?_
      intro v5 w5 hown5 hg5 hat5
      rw [List.nil_append] at hown5
      have hW35 : Below w3.heap.size w3 w5 := ((Below.refl w3.heap.size w3).alloc (Nat.le_refl _) _).grown hg5 (by simp) (fun k hk => by simp [Value.ownBlock] at hk; omega)
      obtain ⟨V5, c5, rfl, hr5, -⟩ := hown5.shape
      have hb5 := HB3.out.trans (hW35.mono HB3.out.size)
      refine hK.out _ _ hb5 (fun hS5 => ?_)
      have HR5 := Lib.hid hr5
      have HB5 := Lib.hid hb5
      clear hK K hown5 hg5 hat5 hW35 hr5 hb5
      rw [HN1.out]
      simp only [Act.put, List.setIfInBounds_toArray, List.set_cons_zero, List.set_cons_succ]
      refine heldb_one (i := 14) rfl (by kernel_rfl) rfl (fun K hK => ?_)
      go_simp
      refine (equal_any n1 cap1 n1 c5 A1 V5 l1 l1 _ HN1.out (by have := HB1.out; omega) ((HR1.out.below HB5.out).more HB5.out.size) HN1.out (by have := HB1.out; omega) HR5.out).mono ?_
      rintro e w7 ⟨rfl, g7⟩
      rw [decide_eq_true (rfl : l1 = l1)]
      have hb7 := HB5.out.trans ((below_of_none g7).mono HB5.out.size)
      refine hK.out _ _ hb7 (fun hS7 => ?_)
      have HB7 := Lib.hid hb7
      clear hK K g7 hb7
      refine heldb_take (i := 15) (d := some 30) (v := ?qv5_15) (by assumption) rfl rfl (by kernel_rfl) (fun _ _ _ h => h) ?qy5_15 ?_; case qy5_15 => (refine Or.inl ⟨rfl, fun wx hS => ?_⟩; go_simp; try with_reducible rfl)
      simp only [Act.put, List.setIfInBounds_toArray, List.set_cons_zero, List.set_cons_succ]
      refine heldb_take (i := 16) (d := some 4) (v := ?qv5_16) (by assumption) rfl rfl (by kernel_rfl) (fun _ _ _ h => h) ?qy5_16 ?_; case qy5_16 => (refine Or.inl ⟨rfl, fun wx hS => ?_⟩; go_simp; try with_reducible rfl)
      simp only [Act.put, List.setIfInBounds_toArray, List.set_cons_zero, List.set_cons_succ]
      refine held_end (by kernel_rfl) ?_ _
      go_wp2
      go_ret
      exact ⟨rfl, G1.out.trans ((below_undrew HB7.out).mono G1.out.size)⟩
end Go.Proofs.YtbpkaaajcimcgaaDoor
