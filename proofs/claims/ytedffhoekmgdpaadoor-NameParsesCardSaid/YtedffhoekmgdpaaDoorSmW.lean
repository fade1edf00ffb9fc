/- The walk of NameSame. -/
import Derived.Test.YtedffhoekmgdpaaDoorSp
import Derived.Test.YtedffhoekmgdpaaDoorOpN
namespace Go.Proofs.YtedffhoekmgdpaaDoor
open Go.RowKit

theorem text_same {ls1 ls2 : List ByteArray} {r1 r2 : ByteArray} (h1 : nameOk (dl ls1) r1.data.toList = true) (h2 : nameOk (dl ls2) r2.data.toList = true) :
    ((ByteArray.mk (textOf (dl ls1) r1.data.toList).toArray).toList == (ByteArray.mk (textOf (dl ls2) r2.data.toList).toArray).toList) = sameOf ls1 r1 ls2 r2 := by
  rw [ByteArray.toList_mk, ByteArray.toList_mk, Bool.eq_iff_iff, beq_iff_eq, sameOf, Bool.and_eq_true, decide_eq_true_iff, decide_eq_true_iff]
  constructor
  · intro h
    have p1 := parse_text h1
    have p2 := parse_text h2
    rw [h] at p1
    exact ⟨ba_inj (p1.2.1.symm.trans p2.2.1), dl_inj (p1.1.symm.trans p2.1)⟩
  · rintro ⟨rfl, rfl⟩
    rfl
theorem text_ends {e : Ending} {c : Bool} {a b : ByteArray} (h : e = .returned (if c = true then .tuple #[.string a, .int .i64 0] else .tuple #[.string b, .int .i64 30])) : ∃ (u : ByteArray) (z : Int), e = .returned (.tuple #[.string u, .int .i64 z]) := by
  subst h
  cases c
  · exact ⟨b, 30, rfl⟩
  · exact ⟨a, 0, rfl⟩
theorem sameOf_self (ls : List ByteArray) (r : ByteArray) : sameOf ls r ls r = true := by simp [sameOf]
theorem yields_loadC {P : Program} {ops : Array Oper} {S : World → Prop} {oi : Oper} {a : Act} {ty t : TypeId} {n g off : Nat} {cs p : List Value} (hT : AggT P ty n) (x : Operand) (ho : oi.op = .load ty x) (hw : Region.wanted oi (yielded ops a.tmps) = true) (h : ∀ wx, S wx → CB wx g t cs) (hp : (cs.drop off).take n = p) (hl : off + n ≤ cs.length) (hx : a.eval x = .pointer (some ⟨g, off, none⟩)) :
    YieldsIf P ops S oi (.agg p.toArray) a := by
  refine .inl ⟨hw, fun wx hS => ?_⟩
  have hr := run_loadC hT (h wx hS) hp hl
  unfold execOp
  simp only [ho, hx, Instr.loadAt, Instr.sureAddr, Sem.run_bind, Sem.run_pure, Result.andThen_ok, hr]

set_option maxRecDepth 10000 in
set_option maxHeartbeats 1000000 in
theorem walk_NameSame (w : World) (hM : ML w) (A1 : Option Addr) (ls1 : List ByteArray) (c1 : Nat) (r1 : ByteArray) (h1 : RS w w.heap.size A1 ls1 c1) (A2 : Option Addr) (ls2 : List ByteArray) (c2 : Nat) (r2 : ByteArray) (h2 : RS w w.heap.size A2 ls2 c2) :
    Calls Tryd.prog 5 #[.agg #[.slice A1 ls1.length c1, .string r1], .agg #[.slice A2 ls2.length c2, .string r2]] w fun e w' => e = .returned (.bool true) ∧ Below w.heap.size w w' := by
  obtain ⟨n1, hn1⟩ : ∃ n, ls1.length = n := ⟨_, rfl⟩
  obtain ⟨n2, hn2⟩ : ∃ n, ls2.length = n := ⟨_, rfl⟩
  rw [hn1, hn2]
  have HN1 := Lib.hid hn1
  have HN2 := Lib.hid hn2
  go_enter Tryd.func5, Tryd.ntmps5
  obtain ⟨W0, hW0⟩ : ∃ W, W = (w.alloc (.cells #[.slice A1 n1 c1, .string r1] 24)).alloc (.cells #[.slice A2 n2 c2, .string r2] 24) := ⟨_, rfl⟩
  have HW0 := Lib.hid hW0
  have HQ1 := Lib.hid (show CB W0 w.heap.size 24 [.slice A1 n1 c1, .string r1] by rw [hW0]; exact (CB.new w _ [.slice A1 n1 c1, .string r1]).alloc _)
  have HQ2 := Lib.hid (show CB W0 (w.heap.size + 1) 24 [.slice A2 n2 c2, .string r2] by
    rw [hW0]
    have h := CB.new (w.alloc (.cells #[.slice A1 n1 c1, .string r1] 24)) 24 [.slice A2 n2 c2, .string r2]
    rw [World.size_alloc] at h
    exact h)
  have HWW := Lib.hid (show Below w.heap.size w W0 by rw [hW0]; exact ((Below.refl w.heap.size w).alloc (Nat.le_refl _) _).alloc (by rw [World.size_alloc]; omega) _)
  have HS1 := Lib.hid (h1.over HWW.out)
  have HS2 := Lib.hid (h2.over HWW.out)
  have HM0 := Lib.hid (hM.below HWW.out)
  have HB0 := Lib.hid (Below.refl W0.heap.size W0)
  have q11 : ∀ wx, Below W0.heap.size W0 wx → wx.cell? ⟨w.heap.size, 0, none⟩ = some (.slice A1 n1 c1) := fun wx hx => (hx.cell HQ1.out.lt).trans (HQ1.out.at_ (i := 0) rfl)
  have q12 : ∀ wx, Below W0.heap.size W0 wx → wx.cell? ⟨w.heap.size, 1, none⟩ = some (.string r1) := fun wx hx => (hx.cell HQ1.out.lt).trans (HQ1.out.at_ (i := 1) rfl)
  have q21 : ∀ wx, Below W0.heap.size W0 wx → wx.cell? ⟨w.heap.size + 1, 0, none⟩ = some (.slice A2 n2 c2) := fun wx hx => (hx.cell HQ2.out.lt).trans (HQ2.out.at_ (i := 0) rfl)
  have q22 : ∀ wx, Below W0.heap.size W0 wx → wx.cell? ⟨w.heap.size + 1, 1, none⟩ = some (.string r2) := fun wx hx => (hx.cell HQ2.out.lt).trans (HQ2.out.at_ (i := 1) rfl)
  clear h1 h2 hn1 hn2 hM hW0
  cases hg1 : greatOf ls1 r1 with
  | true =>
    have HG1 := Lib.hid hg1
    clear hg1
    go_wp2_with (first
      | (go_at_call 8; rw [← HW0.out]; refine (speaks_any _ HM0.out).mono ?_; rintro e w1 ⟨rfl, hb1⟩; have HB1 := Lib.hid hb1; have e11_w1 := q11 _ HB1.out; have e12_w1 := q12 _ HB1.out; have e21_w1 := q21 _ HB1.out; have e22_w1 := q22 _ HB1.out; clear hb1)
      | (go_at_call 9; refine (great_any A1 ls1 c1 r1 _ ((HS1.out.below HB1.out).more HB1.out.size) n1 HN1.out).mono ?_; rintro e w2 ⟨rfl, hb2⟩; rw [HG1.out]; have HB2 := Lib.hid (HB1.out.trans (hb2.mono HB1.out.size)); have e11_w2 := q11 _ HB2.out; have e12_w2 := q12 _ HB2.out; have e21_w2 := q21 _ HB2.out; have e22_w2 := q22 _ HB2.out; clear hb2))
    go_ret
    exact ⟨rfl, HWW.out.trans (HB2.out.mono HWW.out.size)⟩
  | false =>
  cases hg2 : greatOf ls2 r2 with
  | true =>
    have HG1 := Lib.hid hg1
    have HG2 := Lib.hid hg2
    clear hg1 hg2
    go_wp2_with (first
      | (go_at_call 8; rw [← HW0.out]; refine (speaks_any _ HM0.out).mono ?_; rintro e w1 ⟨rfl, hb1⟩; have HB1 := Lib.hid hb1; have e11_w1 := q11 _ HB1.out; have e12_w1 := q12 _ HB1.out; have e21_w1 := q21 _ HB1.out; have e22_w1 := q22 _ HB1.out; clear hb1)
      | (go_at_call 9; have hx := HB2; clear hx; refine (great_any A2 ls2 c2 r2 _ ((HS2.out.below HB2.out).more HB2.out.size) n2 HN2.out).mono ?_; rintro e w3 ⟨rfl, hb3⟩; rw [HG2.out]; have HB3 := Lib.hid (HB2.out.trans (hb3.mono HB2.out.size)); have e11_w3 := q11 _ HB3.out; have e12_w3 := q12 _ HB3.out; have e21_w3 := q21 _ HB3.out; have e22_w3 := q22 _ HB3.out; clear hb3)
      | (go_at_call 9; refine (great_any A1 ls1 c1 r1 _ ((HS1.out.below HB1.out).more HB1.out.size) n1 HN1.out).mono ?_; rintro e w2 ⟨rfl, hb2⟩; rw [HG1.out]; have HB2 := Lib.hid (HB1.out.trans (hb2.mono HB1.out.size)); have e11_w2 := q11 _ HB2.out; have e12_w2 := q12 _ HB2.out; have e21_w2 := q21 _ HB2.out; have e22_w2 := q22 _ HB2.out; clear hb2))
    go_ret
    exact ⟨rfl, HWW.out.trans (HB3.out.mono HWW.out.size)⟩
  | false =>
  obtain ⟨l1a, l1b, l1c⟩ := greatOf_not hg1
  obtain ⟨l2a, l2b, l2c⟩ := greatOf_not hg2
  have HP1 := Lib.hid (show ∀ s ∈ ls1, s.size ≤ 1000000 from fun s hs => Nat.le_trans (l1c s hs) (by omega))
  have HP2 := Lib.hid (show ∀ s ∈ ls2, s.size ≤ 1000000 from fun s hs => Nat.le_trans (l2c s hs) (by omega))
  have HR1 := Lib.hid (show r1.size ≤ 1000000 by omega)
  have HR2 := Lib.hid (show r2.size ≤ 1000000 by omega)
  have HL1 := Lib.hid (show n1 ≤ 20 by rw [← HN1.out]; exact l1a)
  have HL2 := Lib.hid (show n2 ≤ 20 by rw [← HN2.out]; exact l2a)
  have HG1 := Lib.hid hg1
  have HG2 := Lib.hid hg2
  obtain ⟨x, hx⟩ : ∃ x, x = sameOf ls1 r1 ls2 r2 := ⟨_, rfl⟩
  have HX := Lib.hid hx
  clear hg1 hg2 l1a l1b l1c l2a l2b l2c hx
  go_wp2_with (first
    | (go_at_call 8; rw [← HW0.out]; refine (speaks_any _ HM0.out).mono ?_; rintro e w1 ⟨rfl, hb1⟩; have HB1 := Lib.hid hb1; have e11_w1 := q11 _ HB1.out; have e12_w1 := q12 _ HB1.out; have e21_w1 := q21 _ HB1.out; have e22_w1 := q22 _ HB1.out; clear hb1)
    | (go_at_call 9; have hx := HB2; clear hx; refine (great_any A2 ls2 c2 r2 _ ((HS2.out.below HB2.out).more HB2.out.size) n2 HN2.out).mono ?_; rintro e w3 ⟨rfl, hb3⟩; rw [HG2.out]; have HB3 := Lib.hid (HB2.out.trans (hb3.mono HB2.out.size)); have e11_w3 := q11 _ HB3.out; have e12_w3 := q12 _ HB3.out; have e21_w3 := q21 _ HB3.out; have e22_w3 := q22 _ HB3.out; clear hb3)
    | (go_at_call 9; refine (great_any A1 ls1 c1 r1 _ ((HS1.out.below HB1.out).more HB1.out.size) n1 HN1.out).mono ?_; rintro e w2 ⟨rfl, hb2⟩; rw [HG1.out]; have HB2 := Lib.hid (HB1.out.trans (hb2.mono HB1.out.size)); have e11_w2 := q11 _ HB2.out; have e12_w2 := q12 _ HB2.out; have e21_w2 := q21 _ HB2.out; have e22_w2 := q22 _ HB2.out; clear hb2))
  go_cut [29] from 17 (fun s29 wx => s29 = .bool false ∧ Below W0.heap.size W0 wx)
  case first =>
    have HBD := Lib.hid (show Below W0.heap.size W0 w3.drew from HB3.out.drew)
    clear e11_w1 e12_w1 e21_w1 e22_w1 e11_w2 e12_w2 e21_w2 e22_w2 e11_w3 e12_w3 e21_w3 e22_w3
    cases x
    all_goals (
      refine heldb_begin W0.heap.size (by kernel_rfl) (fun hS0 => ?_)
      generalize w3.drew = wd at *
      refine heldb_take (i := 0) (d := some 17) (v := _) (by assumption) rfl rfl (by kernel_rfl) (fun _ _ _ h => h) (yields_loadC aggN (.tmp 2) rfl rfl (fun wx hx => HQ1.out.below (HBD.out.trans hx) HQ1.out.lt) rfl (Nat.le_refl _) rfl) ?_
      try simp only [Act.put, List.setIfInBounds_toArray, List.set_cons_zero, List.set_cons_succ]
      refine heldb_take (i := 1) (d := some 18) (v := _) (by assumption) rfl rfl (by kernel_rfl) (fun _ _ _ h => h) (yields_loadC aggN (.tmp 3) rfl rfl (fun wx hx => HQ2.out.below (HBD.out.trans hx) HQ2.out.lt) rfl (Nat.le_refl _) rfl) ?_
      try simp only [Act.put, List.setIfInBounds_toArray, List.set_cons_zero, List.set_cons_succ]
      refine heldb_take (i := 3) (d := some 20) (v := _) (by assumption) rfl rfl (by kernel_rfl) (fun _ _ _ h => h) (yields_loadC aggN (.tmp 2) rfl rfl (fun wx hx => HQ1.out.below (HBD.out.trans hx) HQ1.out.lt) rfl (Nat.le_refl _) rfl) ?_
      try simp only [Act.put, List.setIfInBounds_toArray, List.set_cons_zero, List.set_cons_succ]
      refine heldb_take (i := 4) (d := some 21) (v := _) (by assumption) rfl rfl (by kernel_rfl) (fun _ _ _ h => h) (yields_loadC aggN (.tmp 3) rfl rfl (fun wx hx => HQ2.out.below (HBD.out.trans hx) HQ2.out.lt) rfl (Nat.le_refl _) rfl) ?_
      try simp only [Act.put, List.setIfInBounds_toArray, List.set_cons_zero, List.set_cons_succ]
      refine heldb_one (i := 2) rfl (by kernel_rfl) rfl (fun K hK => ?_)
      go_simp
      refine (same_any A1 A2 ls1 ls2 c1 c2 r1 r2 _ ((HS1.out.below HBD.out).more HBD.out.size) ((HS2.out.below HBD.out).more HBD.out.size) n1 n2 HN1.out HN2.out (by have := HL1.out; omega)).mono ?_
      rintro e w5x5 ⟨rfl, hb5x6⟩
      rw [← HX.out]
      have HB5x8 := Lib.hid (HBD.out.trans (hb5x6.mono HBD.out.size))
      refine hK.out _ _ (hS0.trans (hb5x6.mono HBD.out.size)) (fun hS5x7 => ?_)
      clear hK K hb5x6
      try simp only [Act.put, List.setIfInBounds_toArray, List.set_cons_zero, List.set_cons_succ]
      refine heldb_one (i := 5) rfl (by kernel_rfl) rfl (fun K hK => ?_)
      go_simp
      refine (refSame_any A1 A2 ls1 ls2 c1 c2 r1 r2 _ ((HS1.out.below HB5x8.out).more HB5x8.out.size) ((HS2.out.below HB5x8.out).more HB5x8.out.size) n1 n2 HN1.out HN2.out (by have := HL1.out; omega)).mono ?_
      rintro e w5x9 ⟨rfl, hb5x10⟩
      rw [← HX.out]
      have HB5x12 := Lib.hid (HB5x8.out.trans (hb5x10.mono HB5x8.out.size))
      refine hK.out _ _ (hS5x7.trans (hb5x10.mono HB5x8.out.size)) (fun hS5x11 => ?_)
      clear hK K hb5x10
      try simp only [Act.put, List.setIfInBounds_toArray, List.set_cons_zero, List.set_cons_succ]
      refine heldb_take (i := 6) (d := some 23) (v := ?vq5x13) (by assumption) rfl rfl (by kernel_rfl) (fun _ _ _ h => h) ?yq5x13 ?_; case yq5x13 => (refine Or.inl ⟨rfl, fun wx hS => ?_⟩; go_simp; try with_reducible rfl)
      try simp only [Act.put, List.setIfInBounds_toArray, List.set_cons_zero, List.set_cons_succ]
      refine heldb_take (i := 7) (d := some 24) (v := ?vq5x14) (by assumption) rfl rfl (by kernel_rfl) (fun _ _ _ h => h) ?yq5x14 ?_; case yq5x14 => (refine Or.inl ⟨rfl, fun wx hS => ?_⟩; go_simp; try with_reducible rfl)
      try simp only [Act.put, List.setIfInBounds_toArray, List.set_cons_zero, List.set_cons_succ]
      refine heldb_take (i := 8) (d := some 25) (v := _) (by assumption) rfl rfl (by kernel_rfl) (fun _ _ _ h => h) (yields_loadC aggN (.tmp 2) rfl rfl (fun wx hx => HQ1.out.below (HBD.out.trans hx) HQ1.out.lt) rfl (Nat.le_refl _) rfl) ?_
      try simp only [Act.put, List.setIfInBounds_toArray, List.set_cons_zero, List.set_cons_succ]
      refine heldb_take (i := 9) (d := some 26) (v := _) (by assumption) rfl rfl (by kernel_rfl) (fun _ _ _ h => h) (yields_loadC aggN (.tmp 2) rfl rfl (fun wx hx => HQ1.out.below (HBD.out.trans hx) HQ1.out.lt) rfl (Nat.le_refl _) rfl) ?_
      try simp only [Act.put, List.setIfInBounds_toArray, List.set_cons_zero, List.set_cons_succ]
      refine heldb_one (i := 10) rfl (by kernel_rfl) rfl (fun K hK => ?_)
      go_simp
      refine (same_any A1 A1 ls1 ls1 c1 c1 r1 r1 _ ((HS1.out.below HB5x12.out).more HB5x12.out.size) ((HS1.out.below HB5x12.out).more HB5x12.out.size) n1 n1 HN1.out HN1.out (by have := HL1.out; omega)).mono ?_
      rintro e w5x17 ⟨rfl, hb5x18⟩
      rw [sameOf_self ls1 r1]
      have HB5x20 := Lib.hid (HB5x12.out.trans (hb5x18.mono HB5x12.out.size))
      refine hK.out _ _ (hS5x11.trans (hb5x18.mono HB5x12.out.size)) (fun hS5x19 => ?_)
      clear hK K hb5x18
      try simp only [Act.put, List.setIfInBounds_toArray, List.set_cons_zero, List.set_cons_succ]
      first | refine heldb_skip (i := 11) (d := some 28) (by assumption) rfl rfl (by kernel_rfl) (fun _ _ _ h => h) rfl ?_ | (refine heldb_take (i := 11) (d := some 28) (v := ?vq5x21) (by assumption) rfl rfl (by kernel_rfl) (fun _ _ _ h => h) ?yq5x21 ?_; case yq5x21 => (refine Or.inl ⟨rfl, fun wx hS => ?_⟩; go_simp; try with_reducible rfl))
      try simp only [Act.put, List.setIfInBounds_toArray, List.set_cons_zero, List.set_cons_succ]
      refine heldb_take (i := 12) (d := some 29) (v := ?vq5x22) (by assumption) rfl rfl (by kernel_rfl) (fun _ _ _ h => h) ?yq5x22 ?_; case yq5x22 => (refine Or.inl ⟨rfl, fun wx hS => ?_⟩; go_simp; try with_reducible rfl)
      try simp only [Act.put, List.setIfInBounds_toArray, List.set_cons_zero, List.set_cons_succ]
      refine held_end (by kernel_rfl) ?_ _
      go_wp2
      go_meet
      case rel => exact ⟨rfl, HB5x20.out⟩
    )
  case rest =>
    obtain ⟨rfl, hb4⟩ := hcut
    have HB4 := Lib.hid hb4
    have e11_wc := q11 _ HB4.out; have e12_wc := q12 _ HB4.out; have e21_wc := q21 _ HB4.out; have e22_wc := q22 _ HB4.out
    clear hb4 e11_w1 e12_w1 e21_w1 e22_w1 e11_w2 e12_w2 e21_w2 e22_w2 e11_w3 e12_w3 e21_w3 e22_w3
    cases hk1 : nameOk (dl ls1) r1.data.toList with
    | false =>
      have HK1 := Lib.hid hk1
      clear hk1
      have hcc := wc
      clear hcc
      go_wp2_with (first
        | (go_at_call 10; have hx := HB5; clear hx; refine (text_any A2 ls2 c2 r2 _ ((HS2.out.below HB5.out).more HB5.out.size) HP2.out HR2.out n2 HN2.out (by have := HL2.out; omega)).mono ?_; rintro e w6 ⟨he6, hb6⟩; obtain ⟨u6, z6, rfl⟩ := text_ends he6; have HB6 := Lib.hid (HB5.out.trans (hb6.mono HB5.out.size)); have e11_w6 := q11 _ HB6.out; have e12_w6 := q12 _ HB6.out; have e21_w6 := q21 _ HB6.out; have e22_w6 := q22 _ HB6.out; clear hb6 he6)
        | (go_at_call 10; refine (text_any A1 ls1 c1 r1 _ ((HS1.out.below HB4.out).more HB4.out.size) HP1.out HR1.out n1 HN1.out (by have := HL1.out; omega)).mono ?_; rintro e w5 ⟨rfl, hb5⟩; rw [if_neg (by rw [HK1.out]; simp)]; have HB5 := Lib.hid (HB4.out.trans (hb5.mono HB4.out.size)); have e11_w5 := q11 _ HB5.out; have e12_w5 := q12 _ HB5.out; have e21_w5 := q21 _ HB5.out; have e22_w5 := q22 _ HB5.out; clear hb5))
      go_ret
      exact ⟨rfl, HWW.out.trans (HB6.out.mono HWW.out.size)⟩
    | true =>
    cases hk2 : nameOk (dl ls2) r2.data.toList with
    | false =>
      have HK1 := Lib.hid hk1
      have HK2 := Lib.hid hk2
      clear hk1 hk2
      go_wp2_with (first
        | (go_at_call 10; have hx := HB5; clear hx; refine (text_any A2 ls2 c2 r2 _ ((HS2.out.below HB5.out).more HB5.out.size) HP2.out HR2.out n2 HN2.out (by have := HL2.out; omega)).mono ?_; rintro e w6 ⟨rfl, hb6⟩; rw [if_neg (by rw [HK2.out]; simp)]; have HB6 := Lib.hid (HB5.out.trans (hb6.mono HB5.out.size)); have e11_w6 := q11 _ HB6.out; have e12_w6 := q12 _ HB6.out; have e21_w6 := q21 _ HB6.out; have e22_w6 := q22 _ HB6.out; clear hb6)
        | (go_at_call 10; refine (text_any A1 ls1 c1 r1 _ ((HS1.out.below HB4.out).more HB4.out.size) HP1.out HR1.out n1 HN1.out (by have := HL1.out; omega)).mono ?_; rintro e w5 ⟨rfl, hb5⟩; rw [if_pos HK1.out]; have HB5 := Lib.hid (HB4.out.trans (hb5.mono HB4.out.size)); have e11_w5 := q11 _ HB5.out; have e12_w5 := q12 _ HB5.out; have e21_w5 := q21 _ HB5.out; have e22_w5 := q22 _ HB5.out; clear hb5))
      go_ret
      exact ⟨rfl, HWW.out.trans (HB6.out.mono HWW.out.size)⟩
    | true =>
      have HK1 := Lib.hid hk1
      have HK2 := Lib.hid hk2
      have htx := text_same hk1 hk2
      rw [← HX.out] at htx
      obtain ⟨T1, hT1⟩ : ∃ T, T = textOf (dl ls1) r1.data.toList := ⟨_, rfl⟩
      obtain ⟨T2, hT2⟩ : ∃ T, T = textOf (dl ls2) r2.data.toList := ⟨_, rfl⟩
      rw [← hT1, ← hT2] at htx
      have HT1 := Lib.hid hT1
      have HT2 := Lib.hid hT2
      clear hk1 hk2 hT1 hT2
      simp only [ByteArray.toList_mk] at htx
      cases x
      all_goals (
        go_wp2_with (first
          | (go_at_call 17; refine (same_any A1 A2 ls1 ls2 c1 c2 r1 r2 _ ((HS1.out.below HB6.out).more HB6.out.size) ((HS2.out.below HB6.out).more HB6.out.size) n1 n2 HN1.out HN2.out (by have := HL1.out; omega)).mono ?_; rintro e w7 ⟨rfl, hb7⟩; rw [← HX.out]; have HB7 := Lib.hid (HB6.out.trans (hb7.mono HB6.out.size)); clear hb7)
          | (go_at_call 10; have hx := HB5; clear hx; refine (text_any A2 ls2 c2 r2 _ ((HS2.out.below HB5.out).more HB5.out.size) HP2.out HR2.out n2 HN2.out (by have := HL2.out; omega)).mono ?_; rintro e w6 ⟨rfl, hb6⟩; rw [if_pos HK2.out, ← HT2.out]; have HB6 := Lib.hid (HB5.out.trans (hb6.mono HB5.out.size)); have e11_w6 := q11 _ HB6.out; have e12_w6 := q12 _ HB6.out; have e21_w6 := q21 _ HB6.out; have e22_w6 := q22 _ HB6.out; clear hb6)
          | (go_at_call 10; refine (text_any A1 ls1 c1 r1 _ ((HS1.out.below HB4.out).more HB4.out.size) HP1.out HR1.out n1 HN1.out (by have := HL1.out; omega)).mono ?_; rintro e w5 ⟨rfl, hb5⟩; rw [if_pos HK1.out, ← HT1.out]; have HB5 := Lib.hid (HB4.out.trans (hb5.mono HB4.out.size)); have e11_w5 := q11 _ HB5.out; have e12_w5 := q12 _ HB5.out; have e21_w5 := q21 _ HB5.out; have e22_w5 := q22 _ HB5.out; clear hb5))
        go_ret
        exact ⟨rfl, HWW.out.trans (HB7.out.mono HWW.out.size)⟩)
end Go.Proofs.YtedffhoekmgdpaaDoor
