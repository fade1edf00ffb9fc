/- The walk of the document's Idle. -/
import Derived.Test.YtajfaplaaafjiaaMxy
import Derived.Test.YtajfaplaaafjiaaMxz
namespace Go.Proofs.Ytajfaplaaafjiaa
open Go.RowKit

theorem aggR : AggT Try.prog 92 36 := ⟨fun w => by kernel_rfl, by kernel_rfl⟩
theorem szR : (Try.prog.info? 92).map (·.size) = some 36 := by kernel_rfl
theorem RX.one {w : World} {base n : Nat} {us vs : Nat → Value} {D : Nat → Rc} (h : RX w base n us vs D) : ∀ u ∈ refC us vs D, u.oneCell' = true := by
  have hu : ∀ i, i < 4 → (us i).oneCell' = true := fun i hi => by obtain ⟨A, c, e, -⟩ := (h.ou i hi).shape; rw [e]; rfl
  have hv : ∀ i, i < 4 → (vs i).oneCell' = true := fun i hi => by obtain ⟨A, c, e, -⟩ := (h.ov i hi).shape; rw [e]; rfl
  intro u hm
  simp only [refC, List.mem_append] at hm
  have key : ∀ i, i < 4 → u ∈ rfC (us i) (vs i) (D i) → u.oneCell' = true := fun i hi hx => by
    simp only [rfC, List.mem_cons, List.not_mem_nil, or_false] at hx
    rcases hx with rfl | rfl | rfl | rfl | rfl | rfl | rfl | rfl | rfl
    · exact hu i hi
    · rfl
    · rfl
    · rfl
    · exact hv i hi
    · rfl
    · rfl
    · rfl
    · rfl
  rcases hm with ((hm | hm) | hm) | hm
  · exact key 0 (by omega) hm
  · exact key 1 (by omega) hm
  · exact key 2 (by omega) hm
  · exact key 3 (by omega) hm

set_option maxRecDepth 100000 in
set_option maxHeartbeats 4000000 in
theorem ridle_any (w : World) (base n : Nat) (us vs : Nat → Value) (D : Nat → Rc) (C : Nat → Ch) (B : Nat) (h : RX w base n us vs D) (hr : RlA C D) (hl : LimA C) (hB : RbA B D) (hBl : B ≤ 10000000) :
    Calls Try.prog 36 #[.pointer (some ⟨n, 0, none⟩)] w fun e w' => e = .returned (.bool (idleM C)) ∧ w.grownBy w' none := by
  have H := Lib.hid h
  have HR := Lib.hid hr
  have HL := Lib.hid hl
  have HB := Lib.hid hB
  rw [← idle_out]
  obtain ⟨m0, hm0⟩ : ∃ x, (outM 4 C).1.length = x := ⟨_, rfl⟩
  have M0 := Lib.hid hm0
  rw [hm0]
  clear h hr hl hB hm0
  have TK1 := Lib.hid True.intro
  go_enter Try.func36, Try.ntmps36
  go_wp2_with (first
    | (have hx := TK1
       refine wpList_loadC (off := 0) aggR rfl (.tmp 5) rfl H.out.cb (p := refC us vs D) rfl (by rw [refC_len]; omega) (by first | rfl | go_simp) ?_
       clear hx TK1
       have TK2 := Lib.hid True.intro)
    | (have hx := TK2
       refine wpList_storeC (off := 0) (p := refC us vs D) szR rfl (.tmp 3) (.tmp 6) rfl (.agg (refC us vs D).toArray) rfl H.out.one (CB.new w 92 (refC nilV nilV (newR 0))) rfl (by rw [refC_len]; omega) (by first | rfl | go_simp) (by first | rfl | go_simp) ?_
       intro w3 h3 g3
       have h3 : CB w3 w.heap.size 92 (refC us vs D) := h3
       have G3 := Lib.hid (none_new (grown_alloc w (.cells (refC nilV nilV (newR 0)).toArray 92) none) g3 (Nat.le_refl _))
       have X3 := Lib.hid (show RX w3 base w.heap.size us vs D from ⟨Nat.le_trans H.out.hb (Nat.le_of_lt H.out.cb.lt), h3, fun i hi => (H.out.ou i hi).none_ G3.out, fun i hi => (H.out.ov i hi).none_ G3.out⟩)
       clear hx TK2 h3 g3)
    | (go_at_call 32
       refine (rout_any w3 base w.heap.size us vs D C B X3.out HR.out HL.out HB.out hBl).mono ?_
       rintro e w4 ⟨A4, m4, c4, D4, rfl, hm4, hz, -⟩
       have e4 : m4 = m0 := hm4.symm.trans M0.out
       subst e4
       have G4 := Lib.hid (show w.grownBy w4 none from (Mod.next (S := fun z => w.heap.size ≤ z) (Mod.made G3.out) hz.md (fun i hi e => by omega)).none (fun k hk e => by omega))
       clear hm4 hz))
  go_ret
  refine ⟨?_, G4.out⟩
  have e : ((m4 : Int) == 0) = decide (m4 = 0) := by by_cases h : m4 = 0 <;> simp [h]
  rw [← e]
  rfl
end Go.Proofs.Ytajfaplaaafjiaa
