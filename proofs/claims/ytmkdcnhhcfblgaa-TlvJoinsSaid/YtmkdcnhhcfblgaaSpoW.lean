/- The walk of spoil. -/
import Derived.Test.YtmkdcnhhcfblgaaSplSp
namespace Go.Proofs.Ytmkdcnhhcfblgaa
open Go.RowKit

set_option maxRecDepth 100000 in
set_option maxHeartbeats 1000000 in
theorem spoil_any (v : Value) (fs : List Fd) (base hi : Nat) (w : World) (h : OwnFh w base hi 54 5 v fs) (hl : fs.length ≤ 1000000000000) (hls : ∀ f ∈ fs, f.2.length ≤ 1000000000000) :
    Calls Try.prog 18 #[v] w fun e w' => e = .returned (.tuple #[]) ∧ Below base w w' ∧ ∀ k, hi ≤ k → w'.heap[k]? = w.heap[k]? := by
  obtain ⟨A, cap, rfl, hrf, -⟩ := OwnF.shape (by obtain ⟨vs, h1, h2, h3, _⟩ := h; exact ⟨vs, h1, h2, h3⟩)
  by_cases h0 : fs = []
  · subst h0
    clear h hrf
    go_enter Try.func18, Try.ntmps18
    go_wp2
    refine wp_loop_rounds 1 ?_
    rw [rounds_succ]
    go_wp2
    go_end0
    exact ⟨rfl, Below.refl _ _, fun _ _ => rfl⟩
  obtain ⟨f00, hf00⟩ : ∃ f, fs[0]? = some f := ⟨_, List.getElem?_eq_getElem (List.length_pos_iff.2 h0)⟩
  obtain ⟨g, cap', V0, c0, hv0, hbg, hghi, -⟩ := h.at_ hf00
  injection hv0 with hA _ hcap
  subst hA hcap
  have H := Lib.hid h
  have HLS := Lib.hid hls
  clear h hrf hf00 h0 hls
  go_enter Try.func18, Try.ntmps18
  go_wp2
  go_loopw [6] (fun i wr => ∃ (k : Nat) (fs' : List Fd), i = .int .i64 k ∧ k ≤ fs.length ∧ OwnFh wr base hi 54 5 (.slice (some ⟨g, 0, none⟩) fs.length cap) fs' ∧ fs'.length = fs.length ∧ (∀ f ∈ fs', f.2.length ≤ 1000000000000) ∧ Below base w wr ∧ ∀ k, hi ≤ k → wr.heap[k]? = w.heap[k]?) (fun i _ => fs.length - (intOf i).toNat)
  case atStart => exact ⟨0, fs, rfl, Nat.zero_le _, H.out, rfl, HLS.out, Below.refl _ _, fun _ _ => rfl⟩
  case round =>
    obtain ⟨k, fs', rfl, hk, hown, hlen, hls', hbel, hup⟩ := hrel
    by_cases hlt : k < fs.length
    · obtain ⟨f, hf⟩ : ∃ f, fs'[k]? = some f := ⟨_, List.getElem?_eq_getElem (by omega)⟩
      have hfl := hls' f (List.mem_of_getElem? hf)
      obtain ⟨g1, cap1, V, c, hv1, _, _, _, e0, z0, e1, hB⟩ := hown.at_ hf
      injection hv1 with hA hmid hcap
      injection hA with hA
      injection hA with hA
      subst hA
      clear hmid
      rw [Nat.mul_comm 2 k] at e0 e1 z0
      have HO := Lib.hid hown
      have HB := Lib.hid hB
      have HF := Lib.hid hf
      have HL := Lib.hid hlen
      have HLS' := Lib.hid hls'
      have HBE := Lib.hid hbel
      have HUP := Lib.hid hup
      have hki : (k : Int) < (fs.length : Int) := by omega
      clear hown hB hf hlen hls' hbel hcap hup
      go_wp2
      clear e0 z0 e1
      generalize hwo : wr = wo at *
      clear hwo
      go_loopw [15] (fun i wi => ∃ (j : Nat) (fs2 : List Fd) (f2 : Fd), i = .int .i64 j ∧ j ≤ f.2.length ∧ OwnFh wi base hi 54 5 (.slice (some ⟨g, 0, none⟩) fs.length cap) fs2 ∧ fs2.length = fs.length ∧ (∀ f ∈ fs2, f.2.length ≤ 1000000000000) ∧ Below base w wi ∧ (∀ k, hi ≤ k → wi.heap[k]? = w.heap[k]?) ∧ fs2[k]? = some f2 ∧ f2.2.length = f.2.length) (fun i _ => f.2.length - (intOf i).toNat)
      case atStart => exact ⟨0, fs', f, rfl, Nat.zero_le _, HO.out, HL.out, HLS'.out, HBE.out, HUP.out, HF.out, rfl⟩
      case round =>
        obtain ⟨j, fs2, f2, rfl, hj, hown2, hlen2, hls2, hbel2, hup2, hf2, hfl2⟩ := hrel
        by_cases hjt : j < f.2.length
        · obtain ⟨g1, cap1, V1, c1, hv1, _, _, hvhi, e0, z0, e1, hB⟩ := hown2.at_ hf2
          injection hv1 with hA hmid hcap
          injection hA with hA
          injection hA with hA
          subst hA
          rw [hfl2] at e1
          rw [Nat.mul_comm 2 k] at e1
          rcases hB.2 with ⟨_, hz⟩ | ⟨gv, capv, cur, hv2, hbv, hgv, _⟩
          · omega
          injection hv2 with hV _ hc1
          subst hV
          have hjb : j < f2.2.length := by omega
          have hcv : ∃ x, wr.cell? ⟨gv, j, none⟩ = some x := ⟨_, (World.ownsRow.cellAt (by rw [hc1] at hB; exact hB) j (by omega)).trans (List.getElem?_eq_getElem (by rw [bcells_length]; exact hjb))⟩
          obtain ⟨x, hx⟩ := hcv
          have hfz := World.ownsRow.frozenAt hB j
          have hgvhi : gv < hi := hvhi gv rfl
          obtain ⟨fs3, hown3, hlen3, hls3⟩ := hown2.poke (by decide) (g := gv) (k := j) (x := 238) 238 rfl hgv
          have hk3 : ∃ f3, fs3[k]? = some f3 := ⟨_, List.getElem?_eq_getElem (by rw [hlen3, hlen2]; exact hlt)⟩
          obtain ⟨f3, hf3⟩ := hk3
          have hf3l := hls3 k f2 f3 hf2 hf3
          have hls3' : ∀ f ∈ fs3, f.2.length ≤ 1000000000000 := by
            intro y hy
            obtain ⟨m, hm⟩ := List.mem_iff_getElem?.1 hy
            have hm3 := (List.getElem?_eq_some_iff.1 hm).1
            have hm2 : fs2[m]? = some fs2[m] := List.getElem?_eq_getElem (by omega)
            rw [hls3 m _ y hm2 hm]
            exact hls2 _ (List.getElem_mem _)
          have HO3 := Lib.hid hown3
          have HX := Lib.hid (And.intro hlen3 (And.intro hls3' (And.intro hf3 (And.intro hf3l (And.intro hlen2 (And.intro hfl2 (And.intro hbel2 (And.intro hbv (And.intro hup2 hgvhi)))))))))
          have hji : (j : Int) < (f.2.length : Int) := by omega
          clear hown2 hlen2 hls2 hbel2 hup2 hgvhi hvhi hf2 hfl2 hmid hcap hB hgv hc1 hbv hown3 hlen3 hls3 hf3 hf3l hls3' hjb e0 z0
          go_wp2
          go_roundw
          case rel =>
            obtain ⟨x1, x2, x3, x4, x5, x6, x7, x8, x9, x10⟩ := HX.out
            exact ⟨j + 1, fs3, f3, by go_num, by omega, HO3.out, by omega, x2, x7.setCell x8 _, fun k hk => (Below.heap_setCell _ _ _ _ (by show k ≠ gv; omega)).trans (x9 k hk), x3, by omega⟩
          case measure => simp [intOf]; omega
        · obtain ⟨g1, cap1, V1, c1, hv1, _, _, hvhi, e0, z0, e1, hB⟩ := hown2.at_ hf2
          injection hv1 with hA hmid hcap
          injection hA with hA
          injection hA with hA
          subst hA
          rw [Nat.mul_comm 2 k] at e0 z0
          have hown3 := OwnFh.tag (by rw [hlen2]; exact hown2) (by decide) hf2 0
          rw [Nat.mul_comm 2 k] at hown3
          have HO3 := Lib.hid hown3
          have hls3' : ∀ y ∈ fs2.set k (0, f2.2), y.2.length ≤ 1000000000000 := by
            intro y hy
            rcases List.mem_or_eq_of_mem_set hy with hy | rfl
            · exact hls2 y hy
            · exact hls2 f2 (List.mem_of_getElem? hf2)
          have HX := Lib.hid (And.intro hlen2 (And.intro hls3' (And.intro hbel2 hup2)))
          clear hown2 hlen2 hls2 hbel2 hup2 hvhi hf2 hfl2 hmid hcap hB hown3 hls3' e1
          go_wp2
          go_roundw
          case rel =>
            obtain ⟨x1, x2, x3, x4⟩ := HX.out
            exact ⟨k + 1, _, by go_num, by omega, by rw [← x1]; exact HO3.out, by simpa using x1, x2, x3.setCell hbg _, fun k hk => (Below.heap_setCell _ _ _ _ (by show k ≠ g; omega)).trans (x4 k hk)⟩
          case measure => simp [intOf]; omega
    · have HUP := Lib.hid hup
      clear hown hlen hls' hup
      go_wp2
      go_end0
      exact ⟨rfl, hbel, HUP.out⟩
end Go.Proofs.Ytmkdcnhhcfblgaa
