/- The document's Stat and New. -/
import Derived.Test.YtjonnamemmleiaaGreatDoorUak
namespace Go.Proofs.YtjonnamemmleiaaGreatDoor
open Go.RowKit Go.Maps Go.WideMaps

theorem over_nd2 (cs : List Value) (x : List UInt8 × Nd) (h : cs.length = 5) : over cs 0 (ndC x) = ndC x := over_allT _ _ (by rw [h]; exact Nat.le_refl _)
set_option maxRecDepth 10000 in
set_option maxHeartbeats 4000000 in
theorem rstat_any (w : World) (rb : Nat) (v : Value) (N : List (List UInt8 × Nd)) (h : RT w rb v N) (who s : ByteArray) (p : List UInt8) (hp : s.data.toList = p) (hs : p.length ≤ 300) :
    Calls Tryz.prog 65 #[.pointer (some ⟨rb, 0, none⟩), .string who, .string s] w fun e w' => StR w N who p e w' := by
  obtain ⟨wa, hwa⟩ : ∃ x, x = w.alloc (.cells zeroNd.toArray 63) := ⟨_, rfl⟩
  have hga : w.grownBy wa none := by rw [hwa]; exact grown_alloc _ _ _
  have hca : CB wa w.heap.size 63 zeroNd := by rw [hwa]; exact CB.new _ _ _
  have hsz : w.heap.size < wa.heap.size := by rw [hwa, World.size_alloc]; omega
  have CA := rfind_any wa rb v N (h.far hga (by simp) (by simp) (by simp)) who s p hp (by omega)
  have HGA := Lib.hid hga
  have HCA := Lib.hid hca
  have HWA := Lib.hid hwa
  rcases findR_cases N who p with ⟨c, h0, hf⟩ | ⟨n, hin, hf⟩
  · rw [place_no hf, hf] at CA
    have hcq : (c == 0) = false := beq_eq_false_iff_ne.2 h0
    have CC := Lib.hid CA
    have HF := Lib.hid hf
    clear CA h hp hs hf h0 hwa hga hca hsz
    go_enter Tryz.func65, Tryz.ntmps65
    go_wp2_with (first
      | (go_at_call 60
         rw [show w.alloc (.cells #[.string ⟨#[]⟩, .bool false, .string ⟨#[]⟩, .int .i64 0, .slice none 0 0] 63) = wa from HWA.out.symm]
         refine CC.out.mono ?_
         rintro e w1 ⟨rfl, g1⟩
         have G1 := Lib.hid (grown_trans' HGA.out g1)
         have C1 := Lib.hid (HCA.out.kept g1)
         clear g1)
      | (refine wpList_storeC (off := 0) (p := zeroNd) aggNd.hi rfl (.tmp 6) (.tmp 19) rfl (.agg zeroNd.toArray) rfl (nd_one _ _ _ _ _ _ _) C1.out rfl (Nat.le_refl _) (by first | rfl | go_simp) (by first | rfl | go_simp) ?_
         intro w4 h4 g4
         have C4 := Lib.hid (show CB w4 w.heap.size 63 zeroNd from h4)
         have W4 := Lib.hid (none_new G1.out g4 (Nat.le_refl _))
         clear h4 g4))
    refine bodyPost_ret (results_C2 rfl _ aggNd C4.out rfl (by first | rfl | go_simp)) rfl ?_
    unfold StR
    rw [HF.out]
    exact ⟨rfl, W4.out⟩
  · have hl := nodup_lookup h.nodup hin
    obtain ⟨j, hj, hjx⟩ := look_some h.nodup hl
    rw [place_yes hf hj, hf] at CA
    have CC := Lib.hid CA
    obtain ⟨ab, ao, cap, hv, hab, hjn, hcl⟩ := h.elem hjx
    obtain ⟨nn, hnn⟩ : ∃ nn, N.length = nn := ⟨_, rfl⟩
    have htop := h.top
    rw [hv, hnn] at htop
    rw [hnn] at hjn
    have HTP := Lib.hid htop
    have hji : (j : Int) < (nn : Int) := by omega
    have hn64 : nn ≤ 64 := by rw [← hnn]; exact h.len
    have HCL := Lib.hid (fun (wx : World) (hx : w.grownBy wx none) (q : Nat) (u : Value) (hq : (ndC (p, n))[q]? = some u) => ((below_of_none hx).cell (p := ⟨ab, ao + j * 5 + q, none⟩) hab).trans (hcl q u hq))
    obtain ⟨ld, hod, -⟩ := h.dat _ (List.mem_of_getElem? hjx)
    have HON := Lib.hid (ndC_one (p, n) hod.oneCell)
    have HF := Lib.hid hf
    clear CA h hp hs hf hl hj hjx hv hab hjn hcl hnn htop hin hod hwa hga hca hsz
    go_enter Tryz.func65, Tryz.ntmps65
    go_wp2_with (first
      | (go_at_call 60
         rw [show w.alloc (.cells #[.string ⟨#[]⟩, .bool false, .string ⟨#[]⟩, .int .i64 0, .slice none 0 0] 63) = wa from HWA.out.symm]
         refine CC.out.mono ?_
         rintro e w1 ⟨rfl, g1⟩
         have G1 := Lib.hid (grown_trans' HGA.out g1)
         have C1 := Lib.hid (HCA.out.kept g1)
         have q0 := (HTP.out.kept G1.out).at_ (i := 0) (v := .slice (some ⟨ab, ao, none⟩) nn cap) rfl
         clear g1)
      | (refine wpList_loadX (p := ndC (p, n)) aggNd rfl (.tmp 26) rfl (b := ab) (off := ao + j * 5) (HCL.out _ G1.out) rfl (by first | rfl | go_simp) ?_)
      | (refine wpList_storeC (off := 0) (p := ndC (p, n)) aggNd.hi rfl (.tmp 6) (.tmp 27) rfl (.agg (ndC (p, n)).toArray) rfl HON.out C1.out rfl (Nat.le_refl _) (by first | rfl | go_simp) (by first | rfl | go_simp) ?_
         intro w4 h4 g4
         rw [over_nd2 _ _ rfl] at h4
         have C4 := Lib.hid h4
         have W4 := Lib.hid (none_new G1.out g4 (Nat.le_refl _))
         clear h4 g4))
    refine bodyPost_ret (results_C2 rfl _ aggNd C4.out rfl (by first | rfl | go_simp)) rfl ?_
    unfold StR
    rw [HF.out]
    exact ⟨rfl, W4.out⟩
/-- The document's Tree, made. -/
def NewR (w : World) (e : Ending) (w' : World) : Prop := ∃ rb v, e = .returned (.pointer (some ⟨rb, 0, none⟩)) ∧ RT w' rb v [([47], ⟨0, true, rootB, 61, .slice none 0 0⟩)] ∧ w.grownBy w' none ∧ w.heap.size ≤ rb ∧ (∀ g, v.ownBlock = some g → w.heap.size ≤ g)
set_option maxRecDepth 10000 in
set_option maxHeartbeats 4000000 in
theorem rnew_any (w : World) : Calls Tryz.prog 16 #[] w fun e w' => NewR w e w' := by
  go_enter Tryz.func16, Tryz.ntmps16
  go_wp2_with (refine wpList_lit1 (p := ndC ([47], ⟨0, true, rootB, 61, .slice none 0 0⟩)) Tryz.underlying43 aggNd.hi zeroNd_run rfl (by omega) (by omega) rfl (.tmp 1) rfl (by first | rfl | go_simp) ?_)
  go_ret
  obtain ⟨w1, hw1⟩ : ∃ x, x = w.alloc (.cells (ndC ([47], ⟨0, true, rootB, 61, .slice none 0 0⟩)).toArray 63) := ⟨_, rfl⟩
  have hc1 : CB w1 w.heap.size 63 (ndC ([47], ⟨0, true, rootB, 61, .slice none 0 0⟩)) := by rw [hw1]; exact CB.new _ _ _
  have hg1 : w.grownBy w1 none := by rw [hw1]; exact grown_alloc _ _ _
  have hz1 : w1.heap.size = w.heap.size + 1 := by rw [hw1, World.size_alloc]
  have hrow : RowX w1 0 63 5 (.slice (some ⟨w.heap.size, 0, none⟩) 1 1) ([([47], ⟨0, true, rootB, 61, .slice none 0 0⟩)].map ndC) :=
    ⟨⟨rfl, .inr ⟨w.heap.size, 1, (ndC ([47], ⟨0, true, rootB, 61, .slice none 0 0⟩)).toArray, rfl, Nat.zero_le _, hc1, Nat.le_refl _, by decide, rfl, rfl⟩⟩, fun c hc => by rw [List.mem_singleton.1 hc]; rfl⟩
  refine ⟨w.heap.size + 1, .slice (some ⟨w.heap.size, 0, none⟩) 1 1, rfl, ?_, ?_, by omega, fun g hg => by simp [Value.ownBlock] at hg; omega⟩
  · rw [← hw1]
    have hc2 := CB.new w1 46 [.slice (some ⟨w.heap.size, 0, none⟩) 1 1]
    rw [hz1] at hc2
    refine ⟨hc2, hrow.none (grown_alloc _ _ _), fun x hx => ?_, fun x hx => ?_, by unfold SortN; exact List.pairwise_singleton _ _, by simp⟩
    · rw [List.mem_singleton.1 hx]; exact ⟨[], OwnB.nil_ _ _ _, by simp⟩
    · rw [List.mem_singleton.1 hx]; decide
  · rw [← hw1]
    exact grown_trans' hg1 (grown_alloc _ _ _)
end Go.Proofs.YtjonnamemmleiaaGreatDoor
