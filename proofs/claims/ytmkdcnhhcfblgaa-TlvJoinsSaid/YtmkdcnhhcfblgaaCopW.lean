/- The walks of great and copied. -/
import Derived.Test.YtmkdcnhhcfblgaaRJoW
namespace Go.Proofs.Ytmkdcnhhcfblgaa
open Go.RowKit

def greatOf : List Fd → Nat → Bool
  | [], n => decide (200000 < n)
  | f :: fs, n => decide (70000 < f.2.length) || decide (200000 < n) || greatOf fs (n + f.2.length + 10)
theorem greatOf_small : ∀ (fs : List Fd) (n : Nat), greatOf fs n = false → n ≤ 200000 ∧ tot fs + 7 * fs.length + n ≤ 200000 ∧ ∀ f ∈ fs, f.2.length ≤ 70000
  | [], n, h => by simp [greatOf] at h; simp [tot]; omega
  | f :: fs, n, h => by
    simp only [greatOf, Bool.or_eq_false_iff, decide_eq_false_iff_not] at h
    obtain ⟨⟨h1, h2⟩, h3⟩ := h
    obtain ⟨k1, k2, k3⟩ := greatOf_small fs _ h3
    have ht : tot (f :: fs) = f.2.length + 3 + tot fs := by simp [tot]
    refine ⟨by omega, by simp only [List.length_cons]; omega, fun x hx => ?_⟩
    rcases List.mem_cons.1 hx with rfl | hx
    · omega
    · exact k3 x hx

set_option maxHeartbeats 1000000 in
theorem great_any (A : Option Addr) (fs : List Fd) (cap : Nat) (w : World) (h : RF w w.heap.size A fs cap) :
    Calls Try.prog 11 #[.slice A fs.length cap] w fun e w' => e = .returned (.bool (greatOf fs 0)) ∧ w = w' := by
  have hl : fs.length ≤ 9223372036854775807 := Nat.le_trans h.1 h.2.1
  have H := Lib.hid h
  clear h
  go_enter Try.func11, Try.ntmps11
  go_wp2
  go_loop [3, 4] (fun n i => ∃ k m : Nat, i = .int .i64 k ∧ k ≤ fs.length ∧ n = .int .i64 m ∧ m ≤ 300000 ∧ greatOf fs 0 = greatOf (fs.drop k) m) (fun _ i => fs.length - (intOf i).toNat)
  case atStart => exact ⟨0, 0, rfl, Nat.zero_le _, rfl, by omega, rfl⟩
  case round =>
    obtain ⟨k, m, rfl, hk, rfl, hm, hg⟩ := hrel
    by_cases hlt : k < fs.length
    · obtain ⟨f, hf⟩ : ∃ f, fs[k]? = some f := ⟨_, List.getElem?_eq_getElem hlt⟩
      obtain ⟨b, off, rfl, hb, hc⟩ := H.out.open_ (by omega)
      obtain ⟨hc1, V, c, hc2, hV⟩ := hc k f hf
      have hd : fs.drop k = f :: fs.drop (k + 1) := by rw [List.drop_eq_getElem_cons hlt]; congr 1; rw [List.getElem?_eq_getElem hlt] at hf; injection hf
      rw [hd, greatOf] at hg
      have hki : (k : Int) < (fs.length : Int) := by omega
      have hvm : f.2.length ≤ 9223372036854775807 := Nat.le_trans hV.1 hV.2.1
      obtain ⟨t, vb⟩ := f
      simp only at hc1 hc2 hg hvm
      have HG := Lib.hid hg
      clear hc hf hd hg hV H
      by_cases h1 : 70000 < vb.length
      · have HG' : Hid (greatOf fs 0 = true) := by unfold Hid; rw [HG.out]; simp [h1]
        clear HG
        go_wp2
        go_ret
        exact ⟨by rw [HG'.out]; rfl, rfl⟩
      by_cases h2 : 200000 < m
      · have HG' : Hid (greatOf fs 0 = true) := by unfold Hid; rw [HG.out]; simp [h2]
        have hd1 : decide (70000 < (vb.length : Int)) = false := by simp; omega
        clear HG
        go_wp2
        go_ret
        exact ⟨by rw [HG'.out]; rfl, rfl⟩
      · have HG' : Hid (greatOf fs 0 = greatOf (fs.drop (k + 1)) (m + vb.length + 10)) := by unfold Hid; rw [HG.out]; simp [h1, h2]
        have hd1 : decide (70000 < (vb.length : Int)) = false := by simp; omega
        have hd2 : decide (200000 < (m : Int)) = false := by simp; omega
        clear HG
        go_wp2
        go_round
        case rel => exact ⟨k + 1, m + vb.length + 10, by go_num, by omega, by go_num, by omega, HG'.out⟩
        case measure => simp [intOf]; omega
    · have hd : fs.drop k = [] := List.drop_eq_nil_of_le (by omega)
      rw [hd, greatOf] at hg
      have HG := Lib.hid hg
      have hdd : decide (200000 < (m : Int)) = decide (200000 < m) := by rw [decide_eq_decide]; omega
      clear hg hd
      go_wp2
      go_ret
      exact ⟨by rw [HG.out]; rfl, rfl⟩

set_option maxRecDepth 100000 in
set_option maxHeartbeats 1000000 in
theorem copied_any (A : Option Addr) (fs : List Fd) (cap : Nat) (w : World) (h : RF w w.heap.size A fs cap) (hl0 : fs.length ≤ 1000000) (hv0 : ∀ f ∈ fs, f.2.length ≤ 1000000) :
    Calls Try.prog 12 #[.slice A fs.length cap] w fun e w' => ∃ v, e = .returned v ∧ OwnF w' w.heap.size 54 5 v fs ∧ Below w.heap.size w w' := by
  have hl : fs.length ≤ 9223372036854775807 := by omega
  have H := Lib.hid h
  have HV0 := Lib.hid hv0
  clear h hv0
  go_enter Try.func12, Try.ntmps12
  go_wp2
  go_loopw [3, 9] (fun v i wr => ∃ k : Nat, i = .int .i64 k ∧ k ≤ fs.length ∧ OwnF wr w.heap.size 54 5 v (fs.take k) ∧ Below w.heap.size w wr) (fun _ i _ => fs.length - (intOf i).toNat)
  case atStart => exact ⟨0, rfl, Nat.zero_le _, OwnF.new0 _ _ _ _ (Nat.le_refl _), (Below.refl _ _).alloc (Nat.le_refl _) _⟩
  case round =>
    obtain ⟨k, rfl, hk, hown, hbel⟩ := hrel
    have hbs := hbel.size
    by_cases hlt : k < fs.length
    · obtain ⟨f, hf⟩ : ∃ f, fs[k]? = some f := ⟨_, List.getElem?_eq_getElem hlt⟩
      obtain ⟨b, off, rfl, hb, hc⟩ := H.out.open_ (by omega)
      obtain ⟨hc1, V, c, hc2, hV⟩ := hc k f hf
      have hvl := HV0.out f (List.mem_of_getElem? hf)
      have k1 := (hbel.cell (p := ⟨b, off + k * 2, none⟩) hb).trans hc1
      have k2 := (hbel.cell (p := ⟨b, off + k * 2 + 1, none⟩) hb).trans hc2
      have htk : (fs.take k).length = k := by rw [List.length_take]; omega
      have hsn : fs.take (k + 1) = fs.take k ++ [f] := by
        rw [List.take_succ_eq_append_getElem hlt]; congr 2; rw [List.getElem?_eq_getElem hlt] at hf; injection hf
      obtain ⟨t, vb⟩ := f
      simp only at k1 k2 hV hvl
      have hki : (k : Int) < (fs.length : Int) := by omega
      have HO := Lib.hid hown
      have HB := Lib.hid hbel
      have HV := Lib.hid hV
      have HSN := Lib.hid hsn
      clear hown hbel hV hf hc hc1 hc2 hsn
      go_wp2_with fail
      have HB3 : Hid (Below w.heap.size w (wr.alloc (.cells #[.int .i64 t, .slice V vb.length c] 54))) := HB.out.alloc hbs _
      have HO3 : Hid (OwnF (wr.alloc (.cells #[.int .i64 t, .slice V vb.length c] 54)) w.heap.size 54 5 _ (fs.take k)) := OwnF.below HO.out ((Below.refl _ _).alloc (Nat.le_refl _) _)
      have hs3 : w.heap.size ≤ (wr.alloc (.cells #[.int .i64 t, .slice V vb.length c] 54)).heap.size := by simp; omega
      have e0 : (wr.alloc (.cells #[.int .i64 t, .slice V vb.length c] 54)).cell? ⟨wr.heap.size, 0, none⟩ = some (.int .i64 t) := cell_of_row _ wr.heap.size 0 _ _ _ (heap_alloc_new wr (.cells #[.int .i64 t, .slice V vb.length c] 54))
      have e1 : (wr.alloc (.cells #[.int .i64 t, .slice V vb.length c] 54)).cell? ⟨wr.heap.size, 1, none⟩ = some (.slice V vb.length c) := cell_of_row _ wr.heap.size 1 _ _ _ (heap_alloc_new wr (.cells #[.int .i64 t, .slice V vb.length c] 54))
      have hszr : wr.heap.size < (wr.alloc (.cells #[.int .i64 t, .slice V vb.length c] 54)).heap.size := by simp
      have HLT := Lib.hid (fun he => absurd (b := False) (HO.out.lt wr.heap.size he).2 (Nat.lt_irrefl _))
      generalize wr.heap.size = b0 at *
      generalize wr.alloc (.cells #[.int .i64 t, .slice V vb.length c] 54) = W3 at *
      have q1 := fun wx (hx : W3.grownBy wx (Value.ownBlock u3)) => World.grownBy.cell hx e0 (fun he => HLT.out he.symm)
      have q2 := fun wx (hx : W3.grownBy wx (Value.ownBlock u3)) => World.grownBy.cell hx e1 (fun he => HLT.out he.symm)
      have hrow := HO3.out.lt
      refine helds_begin (fun x => W3.grownBy x (Value.ownBlock u3)) (by kernel_rfl) (grown_drew (World.grownBy.refl W3 _)) (fun hS0 => ?_)
      refine helds_take (i := 0) (d := some 13) (v := ?qv5_0) (by assumption) rfl rfl (by kernel_rfl) (fun _ _ _ h => h) ?qy5_0 ?_; case qy5_0 => (refine Or.inl ⟨rfl, fun wx hS => ?_⟩; go_simp; try with_reducible rfl)
      simp only [Act.put, List.setIfInBounds_toArray, List.set_cons_zero, List.set_cons_succ]
      refine helds_take (i := 1) (d := some 14) (v := ?qv5_1) (by assumption) rfl rfl (by kernel_rfl) (fun _ _ _ h => h) ?qy5_1 ?_; case qy5_1 => (refine Or.inl ⟨rfl, fun wx hS => ?_⟩; go_simp; try with_reducible rfl)
      simp only [Act.put, List.setIfInBounds_toArray, List.set_cons_zero, List.set_cons_succ]
      refine helds_take (i := 2) (d := some 15) (v := ?qv5_2) (by assumption) rfl rfl (by kernel_rfl) (fun _ _ _ h => h) ?qy5_2 ?_; case qy5_2 => (refine Or.inl ⟨rfl, fun wx hS => ?_⟩; go_simp; try with_reducible rfl)
      simp only [Act.put, List.setIfInBounds_toArray, List.set_cons_zero, List.set_cons_succ]
      refine helds_take (i := 4) (d := some 17) (v := ?qv5_4) (by assumption) rfl rfl (by kernel_rfl) (fun _ _ _ h => h) ?qy5_4 ?_; case qy5_4 => (refine Or.inl ⟨rfl, fun wx hS => ?_⟩; go_simp; try with_reducible rfl)
      simp only [Act.put, List.setIfInBounds_toArray, List.set_cons_zero, List.set_cons_succ]
      refine helds_take (i := 5) (d := some 18) (v := ?qv5_5) (by assumption) rfl rfl (by kernel_rfl) (fun _ _ _ h => h) ?qy5_5 ?_; case qy5_5 => (refine Or.inl ⟨rfl, fun wx hS => ?_⟩; go_simp; try with_reducible rfl)
      simp only [Act.put, List.setIfInBounds_toArray, List.set_cons_zero, List.set_cons_succ]
      refine helds_one (i := 3) rfl (by kernel_rfl) rfl (fun K hK => ?_)
      go_simp
      refine hK.out _ _ (grown_drew (World.grownBy_alloc W3 _ _)) (fun hS3 => ?_)
      clear hK K
      refine helds_one (i := 6) rfl (by kernel_rfl) rfl (fun K hK => ?_)
      refine wp_appB (d := some 19) byteT rfl (.tmp 16) (.tmp 18) rfl (OwnB.new0 W3 w.heap.size _ hs3).drew (((HV.out.below HB3.out).alloc hs3 _).drew) rfl rfl (by simp; omega) (by simp; omega) ?_
      intro v5 w5 hown5 hg5 hat5
      rw [List.nil_append] at hown5
      have hW35 : Below W3.heap.size W3 w5 := ((Below.refl W3.heap.size W3).alloc (Nat.le_refl _) _).drew.grown hg5 (by simp) (fun k hk => by simp [Value.ownBlock] at hk; omega)
      obtain ⟨V5, c5, rfl, -, -⟩ := hown5.shape
      refine hK.out _ _ (grown_of_below hW35 _) (fun hS6 => ?_)
      have HO5 := Lib.hid hown5
      have HW35 := Lib.hid hW35
      have hs5 := hW35.size
      clear hK K hown5 hg5 hat5 hW35
      simp only [Act.put, List.setIfInBounds_toArray, List.set_cons_zero, List.set_cons_succ]
      refine helds_take (i := 7) (d := some 20) (v := ?qv5_7) (by assumption) rfl rfl (by kernel_rfl) (fun _ _ _ h => h) ?qy5_7 ?_; case qy5_7 => (refine Or.inl ⟨rfl, fun wx hS => ?_⟩; go_simp; try with_reducible rfl)
      simp only [Act.put, List.setIfInBounds_toArray, List.set_cons_zero, List.set_cons_succ]
      refine helds_one (i := 8) rfl (by kernel_rfl) rfl (fun K hK => ?_)
      go_simp
      refine hK.out _ _ (grown_of_below (HW35.out.alloc hs5 _) _) (fun hS8 => ?_)
      clear hK K
      refine helds_one (i := 9) rfl (by kernel_rfl) rfl (fun K hK => ?_)
      refine wp_appF (d := some 22) fieldT (by decide) rfl (.tmp 13) (.tmp 21) rfl (f := (t, vb)) (u := .slice V5 vb.length c5) (ad := ⟨w5.heap.size, 0, none⟩) (OwnF.below HO3.out (HW35.out.alloc hs5 _)) (HO5.out.alloc _) (by simp [go_sem]) (by simp [go_sem, Addr.add]) rfl rfl (by omega) (by simp; omega) ?_
      intro v8 w8 hown8 hg8
      refine hK.out _ _ (hS8.trans hg8) (fun hS9 => ?_)
      have HO8 := Lib.hid hown8
      clear hK K hown8 hg8
      simp only [Act.put, List.setIfInBounds_toArray, List.set_cons_zero, List.set_cons_succ]
      refine helds_take (i := 10) (d := some 3) (v := ?qv5_10) (by assumption) rfl rfl (by kernel_rfl) (fun _ _ _ h => h) ?qy5_10 ?_; case qy5_10 => (refine Or.inl ⟨rfl, fun wx hS => ?_⟩; go_simp; try with_reducible rfl)
      simp only [Act.put, List.setIfInBounds_toArray, List.set_cons_zero, List.set_cons_succ]
      refine held_end (by kernel_rfl) ?_ _
      clear q1 q2
      go_wp2
      go_roundw
      case rel => exact ⟨k + 1, by go_num, by omega, by rw [HSN.out]; exact HO8.out, HB3.out.grown hS9 hs3 (fun k hk => (HO3.out.lt k hk).1)⟩
      case measure => simp [intOf]; omega
    · have hd : fs.take k = fs := List.take_of_length_le (by omega)
      rw [hd] at hown
      clear hd
      go_wp2
      go_ret
      exact ⟨_, rfl, hown, hbel⟩
end Go.Proofs.Ytmkdcnhhcfblgaa
