/- The walks of bytes.Clone, first and Split of tlv. -/
import Derived.Test.YthgejidimnbplaaGreatDoorTkn
import Derived.Test.YthgejidimnbplaaGreatDoorReg
import Derived.WalkSpells
namespace Go.Proofs.YthgejidimnbplaaGreatDoor
open Go.RowKit

set_option maxHeartbeats 400000 in
theorem clone_any (A : Option Addr) (l : List UInt8) (cap n : Nat) (w : World) (hn : l.length = n) (h : RB w w.heap.size A l cap) (hl : n ≤ 140737488355328) :
    Calls Tryz.prog 17 #[.slice A n cap] w fun e w' => ∃ A' c, e = .returned (.slice A' n c) ∧ OwnB w' w.heap.size 5 (.slice A' n c) l ∧ Below w.heap.size w w' := by
  subst hn
  have hl2 : l.length ≤ 9223372036854775807 := by omega
  have hne := fun wx => Lib.run_eql_slice_nil (P := Tryz.prog) wx 30 5 A l.length cap 0 0 Tryz.underlying30
  cases A with
  | none =>
    have h0 : cap = 0 ∧ l = [] := by
      obtain ⟨h1, h2, h3⟩ := h
      rcases h3 with ⟨_, h3⟩ | ⟨a, ha, _⟩
      · exact ⟨h3, List.eq_nil_of_length_eq_zero (by omega)⟩
      · cases ha
    obtain ⟨rfl, rfl⟩ := h0
    clear h hne
    have hne := fun wx => Lib.run_eql_slice_nil (P := Tryz.prog) wx 30 5 none 0 0 0 0 Tryz.underlying30
    go_enter Tryz.func17, Tryz.ntmps17
    go_wp2
    go_ret
    exact ⟨_, _, rfl, OwnB.nil_ _ _ _, Below.refl _ _⟩
  | some a =>
    have H := Lib.hid h
    clear h
    go_enter Tryz.func17, Tryz.ntmps17
    go_wp2_with (at_builtin; refine wpList_appB byteT rfl (.tmp 5) (.tmp 6) rfl (OwnB.new0 _ w.heap.size _ (Nat.le_refl _)) (H.out.alloc (Nat.le_refl _) _) rfl rfl (by simp; omega) (by simp) ?_; intro v' w' hown' hg' _ hat')
    rw [List.nil_append] at hown'
    obtain ⟨A', c, rfl, hr, -⟩ := hown'.shape
    go_ret
    exact ⟨A', c, rfl, hown', ((Below.refl _ _).alloc (Nat.le_refl _) _).grown hg' (by simp) (fun k hk => by simp [Value.ownBlock] at hk; omega)⟩

/-- What the first field of bytes is, and what is behind it; or the number of the error. -/
def firstOf (l : List UInt8) : (Int × List UInt8) × List UInt8 × Int :=
  if l.headD 0 = 0 then ((0, []), [], 21)
  else if l.length < 3 then ((0, []), [], 20)
  else if l.length - 3 < (l.getD 1 0).toNat * 256 + (l.getD 2 0).toNat then ((0, []), [], 20)
  else (((l.headD 0).toNat, (l.drop 3).take ((l.getD 1 0).toNat * 256 + (l.getD 2 0).toNat)), l.drop (3 + ((l.getD 1 0).toNat * 256 + (l.getD 2 0).toNat)), 0)

theorem Below.drewW {B : Nat} {a w : World} (h : Below B a w) {n : Nat} : Below B a (w.drewN n) := ⟨h.os, h.tape, h.output, h.size, h.block⟩

set_option maxHeartbeats 1000000 in
theorem first_any (A : Option Addr) (l : List UInt8) (cap B : Nat) (w : World) (h : RB w B A l cap) (hB : B ≤ w.heap.size) (hp : 0 < l.length) (hl : l.length ≤ 140737488355328) :
    Calls Tryz.prog 76 #[.slice A l.length cap] w fun e w' => ∃ V c R rc, e = .returned (.tuple #[.agg #[.int .i64 (firstOf l).1.1, .slice V (firstOf l).1.2.length c], .slice R (firstOf l).2.1.length rc, .int .i64 (firstOf l).2.2]) ∧
      OwnB w' w.heap.size 5 (.slice V (firstOf l).1.2.length c) (firstOf l).1.2 ∧ RB w B R (firstOf l).2.1 rc ∧ Below w.heap.size w w' := by
  obtain ⟨b, off, rfl, hb, hc⟩ := h.open_ hp
  replace hb := Nat.lt_of_lt_of_le hb hB
  have H := Lib.hid h
  clear h
  have hc0 := hc 0 hp
  rw [Nat.add_zero] at hc0
  have hp' : (0 : Int) < (l.length : Int) := by omega
  have hd0 : l.headD 0 = l[0] := by cases l with | nil => simp at hp | cons x l => rfl
  by_cases hz : l[0] = 0
  · have hr : firstOf l = ((0, []), [], 21) := by rw [firstOf, hd0, if_pos hz]
    rw [hr]
    rw [hz] at hc0
    simp at hc0
    clear hr hz hd0 hc
    go_enter Tryz.func76, Tryz.ntmps76
    go_wp2
    exact bodyPost_ret (v := .tuple #[.agg #[.int .i64 0, .slice none 0 0], .slice none 0 0, .int .i64 21]) (by simp [results, Tryz.results76, go_sem]) rfl
      ⟨none, 0, none, 0, rfl, OwnB.nil_ _ _ _, RB.nil_ _ _, ((Below.refl _ _).alloc (Nat.le_refl _) _)⟩
  have hne0 : ((l[0].toNat : Int) == 0) = false := by
    rw [beq_eq_false_iff_ne]
    intro he
    exact hz (UInt8.toNat_inj.1 (by simpa using he))
  by_cases h3 : l.length < 3
  · have hr : firstOf l = ((0, []), [], 20) := by rw [firstOf, hd0, if_neg hz, if_pos h3]
    rw [hr]
    have h3' : (l.length : Int) < 3 := by omega
    have hx0 := l[0].toNat_lt
    clear hr hz hd0 hc
    generalize l[0].toNat = x0 at *
    go_enter Tryz.func76, Tryz.ntmps76
    go_wp2
    exact bodyPost_ret (v := .tuple #[.agg #[.int .i64 0, .slice none 0 0], .slice none 0 0, .int .i64 20]) (by simp [results, Tryz.results76, go_sem]) rfl
      ⟨none, 0, none, 0, rfl, OwnB.nil_ _ _ _, RB.nil_ _ _, ((Below.refl _ _).alloc (Nat.le_refl _) _)⟩
  have hc1 := hc 1 (by omega)
  have hc2 := hc 2 (by omega)
  have hg1 : l.getD 1 0 = l[1] := by simp [List.getD, List.getElem?_eq_getElem (show 1 < l.length by omega)]
  have hg2 : l.getD 2 0 = l[2] := by simp [List.getD, List.getElem?_eq_getElem (show 2 < l.length by omega)]
  have hx0 := l[0].toNat_lt
  have hx1 := l[1].toNat_lt
  have hx2 := l[2].toNat_lt
  have h3i : (3 : Int) ≤ (l.length : Int) := by omega
  have h1i : (1 : Int) < (l.length : Int) := by omega
  have h2i : (2 : Int) < (l.length : Int) := by omega
  have hlc : l.length ≤ cap := H.out.1
  have hcm : cap ≤ 9223372036854775807 := H.out.2.1
  have hci : (l.length : Int) ≤ (cap : Int) := by omega
  have ho := or_byte ((l[1].toNat : Int) * 256) (l[2].toNat : Int) (by omega) (by omega) (by omega) (by omega) (by omega)
  have hcut := H.out.cut (k := 3) (by omega)
  obtain ⟨r, hr0⟩ : ∃ r, (if cap = 3 then some (⟨b, off, none⟩ : Addr) else some ⟨b, off + 3, none⟩) = some r := by split <;> exact ⟨_, rfl⟩
  have HR : Hid (RB w B (some r) (l.drop 3) (cap - 3)) := by
    rw [show (if cap = 3 then some (⟨b, off, none⟩ : Addr) else (some (⟨b, off, none⟩ : Addr)).map (·.add 3)) = some r by rw [← hr0, Option.map_some, Addr.add_lit]] at hcut
    exact hcut
  clear hcut H
  by_cases hn : l.length - 3 < l[1].toNat * 256 + l[2].toNat
  · have hr : firstOf l = ((0, []), [], 20) := by rw [firstOf, hd0, hg1, hg2, if_neg hz, if_neg h3, if_pos hn]
    rw [hr]
    clear hr hz hd0 hc hg1 hg2 HR
    generalize l[0].toNat = x0 at *
    generalize l[1].toNat = x1 at *
    generalize l[2].toNat = x2 at *
    go_enter Tryz.func76, Tryz.ntmps76
    go_wp2
    go_quiet (fail)
    go_wp2
    exact bodyPost_ret (v := .tuple #[.agg #[.int .i64 0, .slice none 0 0], .slice none 0 0, .int .i64 20]) (by simp [results, Tryz.results76, go_sem]) rfl
      ⟨none, 0, none, 0, rfl, OwnB.nil_ _ _ _, RB.nil_ _ _, by (first | exact Below.drewW ((Below.refl _ _).alloc (Nat.le_refl _) _) | (refine Below.setCell (Below.setCell (Below.drewW ((Below.refl _ _).alloc (Nat.le_refl _) _)) ?_ _) ?_ _ <;> exact Nat.le_refl _))⟩
  · have hr : firstOf l = (((l[0].toNat : Int), (l.drop 3).take (l[1].toNat * 256 + l[2].toNat)), l.drop (3 + (l[1].toNat * 256 + l[2].toNat)), 0) := by rw [firstOf, hd0, hg1, hg2, if_neg hz, if_neg h3, if_neg hn]
    rw [hr]
    clear hr hz hd0 hc hg1 hg2
    generalize l[0].toNat = x0 at *
    generalize l[1].toNat = x1 at *
    generalize l[2].toNat = x2 at *
    obtain ⟨N, hN⟩ : ∃ N, N = x1 * 256 + x2 := ⟨_, rfl⟩
    have hNi : ((x1 : Int) * 256 + x2) = (N : Int) := by omega
    have hnl : N ≤ l.length - 3 := by omega
    rw [← hN]
    have HN := Lib.hid hN
    clear hN hn
    go_enter Tryz.func76, Tryz.ntmps76
    go_wp2
    go_quiet (fail)
    go_wp2
    have hbW : Below w.heap.size w (w.alloc (.cells #[.int .i64 0, .slice none 0 0] 76)) := (Below.refl _ _).alloc (Nat.le_refl _) _
    have hcW0 := cell_of_row _ w.heap.size 0 _ _ _ (heap_alloc_new w (.cells #[.int .i64 0, .slice none 0 0] 76))
    have hcW1 := cell_of_row _ w.heap.size 1 _ _ _ (heap_alloc_new w (.cells #[.int .i64 0, .slice none 0 0] 76))
    have hfW0 := frozen_of_row _ w.heap.size 0 _ _ (heap_alloc_new w (.cells #[.int .i64 0, .slice none 0 0] 76))
    have hfW1 := frozen_of_row _ w.heap.size 1 _ _ (heap_alloc_new w (.cells #[.int .i64 0, .slice none 0 0] 76))
    have hszW : w.heap.size < (w.alloc (.cells #[.int .i64 0, .slice none 0 0] 76)).heap.size := by simp
    have hlen : ((l.drop 3).take N).length = N := by simp; omega
    generalize hW1 : World.drewN _ _ = W1
    have hbW1 : Hid (Below w.heap.size w W1) := by rw [← hW1]; exact ⟨hbW.os, hbW.tape, hbW.output, hbW.size, hbW.block⟩
    have hcb0 : W1.cell? ⟨w.heap.size, 0, none⟩ = some (.int .i64 0) := by rw [← hW1]; exact hcW0
    have hcb1 : W1.cell? ⟨w.heap.size, 1, none⟩ = some (.slice none 0 0) := by rw [← hW1]; exact hcW1
    have hfb0 : W1.frozen? ⟨w.heap.size, 0, none⟩ = false := by rw [← hW1]; exact hfW0
    have hfb1 : W1.frozen? ⟨w.heap.size, 1, none⟩ = false := by rw [← hW1]; exact hfW1
    have hlt0 : w.heap.size < W1.heap.size := by rw [← hW1]; exact hszW
    clear hW1 hbW hcW0 hcW1 hfW0 hfW1 hszW
    have hNc : N ≤ cap - 3 := by omega
    have hcut2 := HR.out.cut (k := N) (by simp; omega)
    obtain ⟨r2, hr2⟩ : ∃ r2, (if cap - 3 = N then some r else some (r.add N)) = some r2 := by split <;> exact ⟨_, rfl⟩
    have HR2 : Hid (RB w B (some r2) ((l.drop 3).drop N) (cap - 3 - N)) := by
      rw [show (if cap - 3 = N then some r else (some r).map (·.add N)) = some r2 from hr2] at hcut2
      exact hcut2
    clear hcut2
    refine heldx_begin (some w.heap.size) (by kernel_rfl) ?_
    refine heldx_take (i := 0) (d := some 36) (v := ?qv9_0) rfl rfl (by kernel_rfl) (fun _ _ _ h => h) ?qy9_0 ?_; case qy9_0 => (refine Or.inl ⟨rfl, fun wx hS => ?_⟩; go_simp; try with_reducible rfl)
    simp only [Act.put, List.setIfInBounds_toArray, List.set_cons_zero, List.set_cons_succ]
    refine heldx_take (i := 1) (d := some 37) (v := ?qv9_1) rfl rfl (by kernel_rfl) (fun _ _ _ h => h) ?qy9_1 ?_; case qy9_1 => (refine Or.inl ⟨rfl, fun wx hS => ?_⟩; go_simp; try with_reducible rfl)
    simp only [Act.put, List.setIfInBounds_toArray, List.set_cons_zero, List.set_cons_succ]
    refine heldx_take (i := 2) (d := some 38) (v := ?qv9_2) rfl rfl (by kernel_rfl) (fun _ _ _ h => h) ?qy9_2 ?_; case qy9_2 => (refine Or.inl ⟨rfl, fun wx hS => ?_⟩; go_simp; try with_reducible rfl)
    simp only [Act.put, List.setIfInBounds_toArray, List.set_cons_zero, List.set_cons_succ]
    refine heldx_take (i := 3) (d := some 39) (v := ?qv9_3) rfl rfl (by kernel_rfl) (fun _ _ _ h => h) ?qy9_3 ?_; case qy9_3 => (refine Or.inl ⟨rfl, fun wx hS => ?_⟩; go_simp; try with_reducible rfl)
    simp only [Act.put, List.setIfInBounds_toArray, List.set_cons_zero, List.set_cons_succ]
    refine heldx_take (i := 6) (d := some 42) (v := ?qv9_6) rfl rfl (by kernel_rfl) (fun _ _ _ h => h) ?qy9_6 ?_; case qy9_6 => (refine Or.inl ⟨rfl, fun wx hS => ?_⟩; go_simp; try with_reducible rfl)
    simp only [Act.put, List.setIfInBounds_toArray, List.set_cons_zero, List.set_cons_succ]
    refine heldx_take (i := 7) (d := some 43) (v := ?qv9_7) rfl rfl (by kernel_rfl) (fun _ _ _ h => h) ?qy9_7 ?_; case qy9_7 => (refine Or.inl ⟨rfl, fun wx hS => ?_⟩; go_simp; try with_reducible rfl)
    simp only [Act.put, List.setIfInBounds_toArray, List.set_cons_zero, List.set_cons_succ]
    refine heldx_take (i := 8) (d := some 44) (v := ?qv9_8) rfl rfl (by kernel_rfl) (fun _ _ _ h => h) ?qy9_8 ?_; case qy9_8 => (refine Or.inl ⟨rfl, fun wx hS => ?_⟩; go_simp; try with_reducible rfl)
    simp only [Act.put, List.setIfInBounds_toArray, List.set_cons_zero, List.set_cons_succ]
    refine heldx_one (i := 4) rfl (by kernel_rfl) rfl rfl (fun K hK => ?_)
    go_simp
    refine (clone_any (some r) ((l.drop 3).take N) (cap - 3) N W1.drew hlen ((((HR.out.head N).more hB).below hbW1.out.drew).more hbW1.out.size) (by omega)).mono ?_
    rintro e w2 ⟨V, c, rfl, hownV, hb2⟩
    refine hK.out _ _ (grown_of_below hb2 _) ?_
    clear hK K
    have e0 := (hb2.cell (p := ⟨w.heap.size, 0, none⟩) hlt0).trans hcb0
    have e1 := (hb2.cell (p := ⟨w.heap.size, 1, none⟩) hlt0).trans hcb1
    have f0 := (hb2.frozen (p := ⟨w.heap.size, 0, none⟩) hlt0).trans hfb0
    have f1 := (hb2.frozen (p := ⟨w.heap.size, 1, none⟩) hlt0).trans hfb1
    have HO := Lib.hid hownV
    have HB2 := Lib.hid hb2
    clear hownV hb2
    refine heldx_take (i := 5) (d := some 41) (v := ?qv9_5) rfl rfl (by kernel_rfl) (fun _ _ _ h => h) ?qy9_5 ?_; case qy9_5 => (refine Or.inl ⟨rfl, fun wx hS => ?_⟩; go_simp; try with_reducible rfl)
    simp only [Act.put, List.setIfInBounds_toArray, List.set_cons_zero, List.set_cons_succ]
    refine heldx_one (i := 9) rfl (by kernel_rfl) rfl rfl (fun K hK => ?_)
    go_simp
    refine hK.out _ _ ((grown_set _ _ _ _).trans (grown_set _ _ _ _)) ?_
    clear hK K
    refine heldx_take (i := 10) (d := some 3) (v := ?qv9_10) rfl rfl (by kernel_rfl) (fun _ _ _ h => h) ?qy9_10 ?_; case qy9_10 => (refine Or.inl ⟨rfl, fun wx hS => ?_⟩; go_simp; try with_reducible rfl)
    simp only [Act.put, List.setIfInBounds_toArray, List.set_cons_zero, List.set_cons_succ]
    refine heldx_take (i := 11) (d := some 4) (v := ?qv9_11) rfl rfl (by kernel_rfl) (fun _ _ _ h => h) ?qy9_11 ?_; case qy9_11 => (refine Or.inl ⟨rfl, fun wx hS => ?_⟩; go_simp; try with_reducible rfl)
    simp only [Act.put, List.setIfInBounds_toArray, List.set_cons_zero, List.set_cons_succ]
    refine held_end (by kernel_rfl) ?_ _
    go_wp2
    have hlenR : (l.drop (3 + N)).length = l.length - 3 - N := by simp; omega
    have HRR := HR2.out
    rw [List.drop_drop] at HRR
    refine bodyPost_ret (v := .tuple #[.agg #[.int .i64 x0, .slice V N c], .slice (some r2) (l.length - 3 - N) (cap - 3 - N), .int .i64 0]) (by simp [results, Tryz.results76, go_sem, e0, e1]) rfl ⟨V, c, some r2, cap - 3 - N, by rw [hlen, hlenR], ?_, HRR, ?_⟩
    · rw [hlen]
      have hk := HO.out
      have hg := (grown_set w2 w.heap.size 0 (.int .i64 x0)).trans (grown_set (w2.setCell ⟨w.heap.size, 0, none⟩ (.int .i64 x0)) w.heap.size 1 (.slice V N c))
      refine OwnB.base_ (World.ownsRow.kept hk hg ?_) hbW1.out.size
      cases hv : (Value.slice V N c).ownBlock with
      | none => exact .inl rfl
      | some k =>
        right
        intro he
        have := (hk.lt k hv).1
        have e : k = w.heap.size := by injection he
        have h2 : W1.heap.size ≤ k := this
        omega
    · exact Below.setCell (Below.setCell (hbW1.out.drew.trans (HB2.out.mono hbW1.out.size)) (Nat.le_refl _) _) (Nat.le_refl _) _
end Go.Proofs.YthgejidimnbplaaGreatDoor
