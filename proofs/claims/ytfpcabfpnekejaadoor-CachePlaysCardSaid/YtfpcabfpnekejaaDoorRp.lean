/- The walks of rightByte and rightPart, and of the document's own answer for parts. -/
import Derived.Test.YtfpcabfpnekejaaDoorSpe
import Derived.Test.YtfpcabfpnekejaaDoorReg
import Derived.WalkKit
namespace Go.Proofs.YtfpcabfpnekejaaDoor
open Go.RowKit

theorem rightB_iff (c : UInt8) : rightB c = true ↔ (65 ≤ c.toNat ∧ c.toNat ≤ 90) ∨ (97 ≤ c.toNat ∧ c.toNat ≤ 122) ∨ (48 ≤ c.toNat ∧ c.toNat ≤ 57) ∨ c.toNat = 45 ∨ c.toNat = 46 ∨ c.toNat = 95 ∨ c.toNat = 43 := by
  simp only [rightB, Bool.or_eq_true, Bool.and_eq_true, decide_eq_true_eq, beq_iff_eq]
  omega
set_option maxHeartbeats 400000 in
theorem rightByte_any (c : UInt8) (w : World) : Calls Tryd.prog 70 #[.int .u8 (c.toNat : Int)] w fun e w' => e = .returned (.bool (rightB c)) ∧ w = w' := by
  have hR := rightB_iff c
  generalize rightB c = b at *
  generalize c.toNat = n at *
  have h1 : b = true ∨ b = false := by cases b <;> simp
  go_enter Tryd.func70, Tryd.ntmps70
  go_wp2
  all_goals go_ret
  all_goals refine ⟨?_, rfl⟩
  all_goals (rcases h1 with rfl | rfl <;> simp_all <;> omega)

theorem all_take (l : List UInt8) (f : UInt8 → Bool) (k : Nat) (hk : k < l.length) : (l.take (k + 1)).all f = ((l.take k).all f && f l[k]) := by
  rw [List.take_succ_eq_append_getElem hk, List.all_append]
  simp
set_option maxHeartbeats 400000 in
theorem rightPart_any (s : ByteArray) (l : List UInt8) (hl : s.data.toList = l) (w : World) (hm : l.length ≤ 1000000) : Calls Tryd.prog 50 #[.string s] w fun e w' => e = .returned (.bool (partOk l)) ∧ w = w' := by
  have hsz : s.size = l.length := by rw [← hl]; rfl
  by_cases h1 : l.length < 1
  · have hp : partOk l = false := by simp [partOk]; omega
    have h1i : (s.size : Int) < 1 := by omega
    rw [hp]
    go_enter Tryd.func50, Tryd.ntmps50
    go_wp2
    go_ret
    exact ⟨rfl, rfl⟩
  by_cases h2 : 16 < l.length
  · have hp : partOk l = false := by simp [partOk]; omega
    have h1i : ¬ (s.size : Int) < 1 := by omega
    have h2i : (16 : Int) < (s.size : Int) := by omega
    rw [hp]
    go_enter Tryd.func50, Tryd.ntmps50
    go_wp2
    go_ret
    exact ⟨rfl, rfl⟩
  have h1i : ¬ (s.size : Int) < 1 := by omega
  have h2i : ¬ (16 : Int) < (s.size : Int) := by omega
  have hp : partOk l = l.all rightB := by simp [partOk]; omega
  rw [hp]
  have HL := Lib.hid hl
  go_enter Tryd.func50, Tryd.ntmps50
  go_wp2
  go_loop [14] (fun i => ∃ k : Nat, i = .int .i64 k ∧ k ≤ l.length ∧ (l.take k).all rightB = true) (fun i => l.length - (intOf i).toNat)
  case atStart => exact ⟨0, rfl, by omega, by simp⟩
  case round =>
    obtain ⟨k, rfl, hk, ha⟩ := hrel
    by_cases hlt : k < l.length
    · have hki : (k : Int) < (s.size : Int) := by omega
      have hx := all_take l rightB k hlt
      have hg : s[k]'(by omega) = l[k] := by subst hl; simp [ByteArray.getElem_eq_getElem_data]
      cases hb : rightB l[k] with
      | false =>
        have hf : l.all rightB = false := by
          rw [List.all_eq_false]
          exact ⟨_, List.getElem_mem hlt, by simp [hb]⟩
        have HF := Lib.hid hf
        have HB := Lib.hid hb
        clear ha hx hf hb
        go_wp2_with (go_at_call 70; refine (rightByte_any _ _).mono ?_; rintro e w1 ⟨rfl, rfl⟩; rw [HB.out])
        go_ret
        exact ⟨by rw [HF.out]; rfl, rfl⟩
      | true =>
        have HX := Lib.hid (show (l.take (k + 1)).all rightB = true by rw [hx, ha, hb]; rfl)
        have HB := Lib.hid hb
        clear ha hx hb
        go_wp2_with (go_at_call 70; refine (rightByte_any _ _).mono ?_; rintro e w1 ⟨rfl, rfl⟩; rw [HB.out])
        go_round
        case rel => exact ⟨k + 1, by go_num, by omega, HX.out⟩
        case measure => simp [intOf]; omega
    · have hki : ¬ (k : Int) < (s.size : Int) := by omega
      have hf : l.all rightB = true := by rw [List.take_of_length_le (by omega)] at ha; exact ha
      have HF := Lib.hid hf
      clear hf ha
      go_wp2
      go_ret
      exact ⟨by rw [HF.out]; rfl, rfl⟩

set_option maxHeartbeats 800000 in
theorem refPart_any (s : ByteArray) (l : List UInt8) (hl : s.data.toList = l) (w : World) (hm : l.length ≤ 1000000) : Calls Tryd.prog 54 #[.string s] w fun e w' => e = .returned (.bool (partOk l)) ∧ w = w' := by
  have hsz : s.size = l.length := by rw [← hl]; rfl
  by_cases h1 : l.length < 1
  · have hp : partOk l = false := by simp [partOk]; omega
    have h1i : (s.size : Int) < 1 := by omega
    rw [hp]
    go_enter Tryd.func54, Tryd.ntmps54
    go_wp2
    go_ret
    exact ⟨rfl, rfl⟩
  by_cases h2 : 16 < l.length
  · have hp : partOk l = false := by simp [partOk]; omega
    have h1i : ¬ (s.size : Int) < 1 := by omega
    have h2i : (16 : Int) < (s.size : Int) := by omega
    rw [hp]
    go_enter Tryd.func54, Tryd.ntmps54
    go_wp2
    go_ret
    exact ⟨rfl, rfl⟩
  have h1i : ¬ (s.size : Int) < 1 := by omega
  have h2i : ¬ (16 : Int) < (s.size : Int) := by omega
  have hp : partOk l = l.all rightB := by simp [partOk]; omega
  rw [hp]
  go_enter Tryd.func54, Tryd.ntmps54
  go_wp2
  go_loop [3] (fun i => ∃ k : Nat, i = .int .i64 k ∧ k ≤ l.length ∧ (l.take k).all rightB = true) (fun i => l.length - (intOf i).toNat)
  case atStart => exact ⟨0, rfl, by omega, by simp⟩
  case round =>
    obtain ⟨k, rfl, hk, ha⟩ := hrel
    by_cases hlt : k < l.length
    · have hki : (k : Int) < (s.size : Int) := by omega
      have hx := all_take l rightB k hlt
      have hg : s[k]'(by omega) = l[k] := by subst hl; simp [ByteArray.getElem_eq_getElem_data]
      have HF := Lib.hid (show rightB l[k] = false → l.all rightB = false from fun hb => by
        rw [List.all_eq_false]
        exact ⟨_, List.getElem_mem hlt, by simp [hb]⟩)
      have HX := Lib.hid (show rightB l[k] = true → (l.take (k + 1)).all rightB = true from fun hb => by rw [hx, ha, hb]; rfl)
      have HR := Lib.hid (rightB_iff l[k])
      clear ha hx
      obtain ⟨c, hc⟩ : ∃ c, c = l[k] := ⟨_, rfl⟩
      rw [← hc] at hg HF HX HR
      generalize rightB c = b at *
      have HT := Lib.hid hg
      clear hc
      go_wp2
      all_goals first
        | exact ⟨⟨k + 1, by go_num, by omega, HX.out (HR.out.2 (by omega))⟩, by simp [intOf]; omega⟩
        | (refine ⟨⟨k + 1, by go_num, by omega, HX.out (HR.out.2 ?_)⟩, by simp [intOf]; omega⟩
           clear HF HX HR HT
           simp_all
           omega)
        | (go_ret
           refine ⟨?_, rfl⟩
           have hb : b = false := by
             have h := HR.out
             cases b
             · rfl
             · exfalso
               have h := h.1 rfl
               clear HF HX HR HT
               simp_all
               omega
           rw [HF.out hb]
           rfl)
    · have hki : ¬ (k : Int) < (s.size : Int) := by omega
      have hf : l.all rightB = true := by rw [List.take_of_length_le (by omega)] at ha; exact ha
      have HF := Lib.hid hf
      clear hf ha
      go_wp2
      go_ret
      exact ⟨by rw [HF.out]; rfl, rfl⟩
end Go.Proofs.YtfpcabfpnekejaaDoor
