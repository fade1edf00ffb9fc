/- The walks of Field and Join of the document's answer. -/
import Derived.Test.YtmkdcnhhcfblgaaSplsW
namespace Go.Proofs.Ytmkdcnhhcfblgaa
open Go.RowKit

set_option maxHeartbeats 400000 in
theorem field_any (t : Int) (V : Option Addr) (v : List UInt8) (c : Nat) (w : World) (h1 : 1 ≤ t) (h2 : t ≤ 255) (h3 : v.length ≤ 65535) (h : RB w w.heap.size V v c) :
    Calls Try.prog 27 #[.int .i64 t, .slice V v.length c] w fun e w' => ∃ u, e = .returned u ∧ OwnB w' w.heap.size 5 u (fieldB (t, v)) ∧ Below w.heap.size w w' := by
  have H := Lib.hid h
  have hl : v.length ≤ 9223372036854775807 := by omega
  have hown3 := OwnB.new3 w w.heap.size 5 (UInt8.ofNat t.toNat) (UInt8.ofNat (v.length / 256)) (UInt8.ofNat v.length) t ((v.length : Int) / 256) ((v.length : Int) % 256) (u8_of (by omega)) (u8_of (by omega)) (u8_of (by omega)) (Nat.le_refl _)
  clear h
  go_enter Try.func27, Try.ntmps27
  go_wp2_with (at_builtin; refine wpList_appB byteT rfl (.tmp 17) (.tmp 18) rfl (l := [UInt8.ofNat t.toNat, UInt8.ofNat (v.length / 256), UInt8.ofNat v.length]) hown3 (H.out.alloc (Nat.le_refl _) _) rfl rfl (by simp; omega) (by simp) ?_; intro v' w' hown' hg' _ hat')
  go_ret
  exact ⟨_, rfl, hown', ((Below.refl _ _).alloc (Nat.le_refl _) _).grown hg' (by simp) (fun k hk => by simp [Value.ownBlock] at hk; omega)⟩

set_option maxRecDepth 100000 in
set_option maxHeartbeats 1000000 in
theorem refJoin_any (A : Option Addr) (fs : List Fd) (cap B : Nat) (w : World) (h : RF w B A fs cap) (hbs0 : B ≤ w.heap.size) (ht : ∀ f ∈ fs, -9223372036854775808 ≤ f.1 ∧ f.1 ≤ 9223372036854775807) (hs : tot fs ≤ 1000000000) :
    Calls Try.prog 14 #[.slice A fs.length cap] w fun e w' => ∃ v, e = .returned (.tuple #[v, .int .i64 (joinOf fs []).2]) ∧ OwnB w' w.heap.size 5 v (joinOf fs []).1 ∧ Below w.heap.size w w' := by
  have hl : fs.length ≤ 9223372036854775807 := Nat.le_trans h.1 h.2.1
  have H := Lib.hid h
  have HT := Lib.hid ht
  clear h ht
  go_enter Try.func14, Try.ntmps14
  go_wp2
  go_loopw [4, 5] (fun v i wr => ∃ (k : Nat) (acc : List UInt8), i = .int .i64 k ∧ k ≤ fs.length ∧ OwnB wr w.heap.size 5 v acc ∧ Below w.heap.size w wr ∧ joinOf fs [] = joinOf (fs.drop k) acc ∧ acc.length + tot (fs.drop k) ≤ tot fs) (fun _ i _ => fs.length - (intOf i).toNat)
  case atStart => exact ⟨0, [], rfl, Nat.zero_le _, OwnB.new0 _ _ _ (Nat.le_refl _), (Below.refl _ _).alloc (Nat.le_refl _) _, rfl, by simp⟩
  case round =>
    obtain ⟨k, acc, rfl, hk, hown, hbel, hj, htot⟩ := hrel
    have hbs := hbel.size
    by_cases hlt : k < fs.length
    · obtain ⟨f, hf⟩ : ∃ f, fs[k]? = some f := ⟨_, List.getElem?_eq_getElem hlt⟩
      obtain ⟨b, off, rfl, hb, hc⟩ := H.out.open_ (by omega)
      obtain ⟨hc1, V, c, hc2, hV⟩ := hc k f hf
      have hd : fs.drop k = f :: fs.drop (k + 1) := by rw [List.drop_eq_getElem_cons hlt]; congr 1; rw [List.getElem?_eq_getElem hlt] at hf; injection hf
      rw [hd] at hj htot
      have hfr := HT.out f (List.mem_of_getElem? hf)
      have hb2 : b < w.heap.size := Nat.lt_of_lt_of_le hb hbs0
      have k1 := (hbel.cell (p := ⟨b, off + k * 2, none⟩) hb2).trans hc1
      have k2 := (hbel.cell (p := ⟨b, off + k * 2 + 1, none⟩) hb2).trans hc2
      have hvl : f.2.length ≤ 1000000000 := by simp [tot] at htot; unfold tot at hs; omega
      have htt : acc.length + f.2.length + 3 ≤ 1000000000 := by simp [tot] at htot; unfold tot at hs; omega
      have HJ := Lib.hid hj
      have HTO := Lib.hid htot
      have HO := Lib.hid hown
      have HB := Lib.hid hbel
      clear hj htot hf hown hc hc1 hc2 hd hbel
      obtain ⟨t, vb⟩ := f
      simp only at k1 k2 hV hfr hvl htt
      have hki : (k : Int) < (fs.length : Int) := by omega
      by_cases hch : chk (t, vb) = 0
      · have HJ' : Hid (joinOf fs [] = joinOf (fs.drop (k + 1)) (acc ++ fieldB (t, vb))) := by unfold Hid; rw [HJ.out, joinOf, if_pos hch]
        have hch2 : 1 ≤ t ∧ t ≤ 255 ∧ vb.length ≤ 65535 := by unfold chk at hch; simp only at hch; split at hch <;> first | omega | (split at hch <;> omega)
        obtain ⟨ht1, ht2, ht3⟩ := hch2
        have hg1 : decide (t < 1) = false := by simp; omega
        have hg2 : decide (255 < t) = false := by simp; omega
        clear HJ hch
        generalize hwo : wr = wo at *
        clear hwo
        go_wp2_with fail
        have q1 := fun wx (hx : Below w.heap.size wo.drew wx) => (hx.cell (p := ⟨b, off + k * 2, none⟩) hb2).trans k1
        have q2 := fun wx (hx : Below w.heap.size wo.drew wx) => (hx.cell (p := ⟨b, off + k * 2 + 1, none⟩) hb2).trans k2
        refine heldb_begin w.heap.size (by kernel_rfl) (fun hS0 => ?_)
        refine heldb_take (i := 0) (d := some 36) (v := ?qv9_0) (by assumption) rfl rfl (by kernel_rfl) (fun _ _ _ h => h) ?qy9_0 ?_; case qy9_0 => (refine Or.inl ⟨rfl, fun wx hS => ?_⟩; go_simp; try with_reducible rfl)
        simp only [Act.put, List.setIfInBounds_toArray, List.set_cons_zero, List.set_cons_succ]
        refine heldb_take (i := 1) (d := some 37) (v := ?qv9_1) (by assumption) rfl rfl (by kernel_rfl) (fun _ _ _ h => h) ?qy9_1 ?_; case qy9_1 => (refine Or.inl ⟨rfl, fun wx hS => ?_⟩; go_simp; try with_reducible rfl)
        simp only [Act.put, List.setIfInBounds_toArray, List.set_cons_zero, List.set_cons_succ]
        refine heldb_take (i := 2) (d := some 38) (v := ?qv9_2) (by assumption) rfl rfl (by kernel_rfl) (fun _ _ _ h => h) ?qy9_2 ?_; case qy9_2 => (refine Or.inl ⟨rfl, fun wx hS => ?_⟩; go_simp; try with_reducible rfl)
        simp only [Act.put, List.setIfInBounds_toArray, List.set_cons_zero, List.set_cons_succ]
        refine heldb_take (i := 3) (d := some 39) (v := ?qv9_3) (by assumption) rfl rfl (by kernel_rfl) (fun _ _ _ h => h) ?qy9_3 ?_; case qy9_3 => (refine Or.inl ⟨rfl, fun wx hS => ?_⟩; go_simp; try with_reducible rfl)
        simp only [Act.put, List.setIfInBounds_toArray, List.set_cons_zero, List.set_cons_succ]
        refine heldb_take (i := 4) (d := some 40) (v := ?qv9_4) (by assumption) rfl rfl (by kernel_rfl) (fun _ _ _ h => h) ?qy9_4 ?_; case qy9_4 => (refine Or.inl ⟨rfl, fun wx hS => ?_⟩; go_simp; try with_reducible rfl)
        simp only [Act.put, List.setIfInBounds_toArray, List.set_cons_zero, List.set_cons_succ]
        refine heldb_take (i := 5) (d := some 41) (v := ?qv9_5) (by assumption) rfl rfl (by kernel_rfl) (fun _ _ _ h => h) ?qy9_5 ?_; case qy9_5 => (refine Or.inl ⟨rfl, fun wx hS => ?_⟩; go_simp; try with_reducible rfl)
        simp only [Act.put, List.setIfInBounds_toArray, List.set_cons_zero, List.set_cons_succ]
        refine heldb_take (i := 6) (d := some 42) (v := ?qv9_6) (by assumption) rfl rfl (by kernel_rfl) (fun _ _ _ h => h) ?qy9_6 ?_; case qy9_6 => (refine Or.inl ⟨rfl, fun wx hS => ?_⟩; go_simp; try with_reducible rfl)
        simp only [Act.put, List.setIfInBounds_toArray, List.set_cons_zero, List.set_cons_succ]
        refine heldb_take (i := 7) (d := some 43) (v := ?qv9_7) (by assumption) rfl rfl (by kernel_rfl) (fun _ _ _ h => h) ?qy9_7 ?_; case qy9_7 => (refine Or.inl ⟨rfl, fun wx hS => ?_⟩; go_simp; try with_reducible rfl)
        simp only [Act.put, List.setIfInBounds_toArray, List.set_cons_zero, List.set_cons_succ]
        refine heldb_take (i := 8) (d := some 44) (v := ?qv9_8) (by assumption) rfl rfl (by kernel_rfl) (fun _ _ _ h => h) ?qy9_8 ?_; case qy9_8 => (refine Or.inl ⟨rfl, fun wx hS => ?_⟩; go_simp; try with_reducible rfl)
        simp only [Act.put, List.setIfInBounds_toArray, List.set_cons_zero, List.set_cons_succ]
        refine heldb_take (i := 9) (d := some 45) (v := ?qv9_9) (by assumption) rfl rfl (by kernel_rfl) (fun _ _ _ h => h) ?qy9_9 ?_; case qy9_9 => (refine Or.inl ⟨rfl, fun wx hS => ?_⟩; go_simp; try with_reducible rfl)
        simp only [Act.put, List.setIfInBounds_toArray, List.set_cons_zero, List.set_cons_succ]
        refine heldb_take (i := 10) (d := some 46) (v := ?qv9_10) (by assumption) rfl rfl (by kernel_rfl) (fun _ _ _ h => h) ?qy9_10 ?_; case qy9_10 => (refine Or.inl ⟨rfl, fun wx hS => ?_⟩; go_simp; try with_reducible rfl)
        simp only [Act.put, List.setIfInBounds_toArray, List.set_cons_zero, List.set_cons_succ]
        refine heldb_one (i := 11) rfl (by kernel_rfl) rfl (fun K hK => ?_)
        go_simp
        refine (field_any t V vb c wo.drew (by omega) (by omega) (by omega) ((hV.more hbs0).below (HB.out.drew.mono (Nat.le_refl _)) |>.more hbs) ).mono ?_
        rintro e w1 ⟨v1, rfl, hown1, hb1⟩
        refine hK.out _ _ (hb1.mono hbs) (fun hS11 => ?_)
        obtain ⟨V1, c1, rfl, hr1, -⟩ := hown1.shape
        have HR1 := Lib.hid hr1
        have hs1 := hb1.size
        have HO1 := Lib.hid (HO.out.below (below_undrew hb1))
        clear hK K hown1 hr1 hb1
        refine heldb_one (i := 12) rfl (by kernel_rfl) rfl (fun K hK => ?_)
        refine wp_appB (d := some 48) byteT rfl (.tmp 36) (.tmp 47) rfl HO1.out HR1.out rfl rfl (by rw [fieldB_length]; simp only; omega) (Nat.le_trans hbs hs1) ?_
        intro v2 w2 hown2 hg2 hat2
        refine hK.out _ _ (hS11.grown hg2 (Nat.le_trans hbs hs1) (fun k hk => (HO1.out.lt k hk).1)) (fun hS12 => ?_)
        have HO2 := Lib.hid hown2
        clear hK K hown2 hg2 hat2
        simp only [Act.put, List.setIfInBounds_toArray, List.set_cons_zero, List.set_cons_succ]
        refine heldb_take (i := 13) (d := some 4) (v := ?qv9_13) (by assumption) rfl rfl (by kernel_rfl) (fun _ _ _ h => h) ?qy9_13 ?_; case qy9_13 => (refine Or.inl ⟨rfl, fun wx hS => ?_⟩; go_simp; try with_reducible rfl)
        simp only [Act.put, List.setIfInBounds_toArray, List.set_cons_zero, List.set_cons_succ]
        refine held_end (by kernel_rfl) ?_ _
        clear q1 q2
        go_wp2
        go_roundw
        case rel =>
          refine ⟨k + 1, _, by go_num, by omega, HO2.out, HB.out.trans (below_undrew hS12), HJ'.out, ?_⟩
          have := HTO.out
          have hfl := fieldB_length (t, vb)
          simp [tot] at this hfl ⊢
          omega
        case measure => simp [intOf]; omega
      · have HJ' : Hid (joinOf fs [] = ([], chk (t, vb))) := by unfold Hid; rw [HJ.out, joinOf, if_neg hch]
        have HC := Lib.hid hch
        clear HJ hch
        by_cases h1 : t < 1
        · have hr : chk (t, vb) = 1 := by unfold chk; rw [if_pos (by simp only; omega)]
          rw [hr] at HJ'
          clear hr HC
          go_wp2
          go_ret2
          exact ⟨_, by rw [HJ'.out]; rfl, by rw [HJ'.out]; exact OwnB.new0 _ _ _ hbs, HB.out.alloc hbs _⟩
        by_cases h2 : 255 < t
        · have hr : chk (t, vb) = 1 := by unfold chk; rw [if_pos (by simp only; omega)]
          rw [hr] at HJ'
          have hg1 : decide (t < 1) = false := by simp; omega
          clear hr HC
          go_wp2
          go_ret2
          exact ⟨_, by rw [HJ'.out]; rfl, by rw [HJ'.out]; exact OwnB.new0 _ _ _ hbs, HB.out.alloc hbs _⟩
        · have h3 : 65535 < vb.length := by
            have := HC.out
            unfold chk at this
            rw [if_neg (by simp only; omega)] at this
            split at this
            · assumption
            · exact absurd rfl this
          have hr : chk (t, vb) = 23 := by unfold chk; rw [if_neg (by simp only; omega), if_pos h3]
          rw [hr] at HJ'
          have hg1 : decide (t < 1) = false := by simp; omega
          have hg2 : decide (255 < t) = false := by simp; omega
          clear hr HC
          go_wp2
          go_ret2
          exact ⟨_, by rw [HJ'.out]; rfl, by rw [HJ'.out]; exact OwnB.new0 _ _ _ hbs, HB.out.alloc hbs _⟩
    · have hd : fs.drop k = [] := List.drop_eq_nil_of_le (by omega)
      rw [hd] at hj
      have HJ := Lib.hid hj
      have HO := Lib.hid hown
      clear hj hown hd htot
      go_wp2
      go_ret2
      exact ⟨_, by rw [HJ.out]; rfl, by rw [HJ.out]; exact HO.out, hbel⟩
end Go.Proofs.Ytmkdcnhhcfblgaa
