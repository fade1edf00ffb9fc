/- The document's Name, Path, At, May. -/
import Derived.Test.YtlkchajkhplapaaGreatDoorUab
namespace Go.Proofs.YtlkchajkhplapaaGreatDoor
open Go.RowKit Go.Maps Go.WideMaps

set_option maxRecDepth 10000 in
set_option maxHeartbeats 4000000 in
theorem refName_any (s : ByteArray) (l : List UInt8) (hl : s.data.toList = l) (w : World) (hm : l.length ≤ 1000000) :
    Calls Tryz.prog 91 #[.string s] w fun e w' => e = .returned (.bool (nameOk l)) ∧ w' = w := by
  have hsz : s.size = l.length := by rw [← hl]; rfl
  by_cases h1 : l.length < 1
  · have hp : nameOk l = false := by rw [nameOk, decide_eq_false (by omega)]; rfl
    have h1i : (s.size : Int) < 1 := by omega
    rw [hp]
    clear hl
    go_enter Tryz.func91, Tryz.ntmps91
    go_wp2
    go_ret
    exact ⟨rfl, rfl⟩
  by_cases h2 : 12 < l.length
  · have hp : nameOk l = false := by rw [nameOk, decide_eq_false (by omega)]; rfl
    have h1i : ¬ (s.size : Int) < 1 := by omega
    have h2i : (12 : Int) < (s.size : Int) := by omega
    rw [hp]
    clear hl
    go_enter Tryz.func91, Tryz.ntmps91
    go_wp2
    go_ret
    exact ⟨rfl, rfl⟩
  by_cases h3 : l = [46]
  · have hs := bytes_of hl
    subst h3
    subst hs
    have hp : nameOk [46] = false := by decide
    rw [hp]
    clear hl hsz
    go_enter Tryz.func91, Tryz.ntmps91
    go_wp2
    go_ret
    exact ⟨rfl, rfl⟩
  by_cases h4 : l = [46, 46]
  · have hs := bytes_of hl
    subst h4
    subst hs
    have hp : nameOk [46, 46] = false := by decide
    rw [hp]
    clear hl hsz
    go_enter Tryz.func91, Tryz.ntmps91
    go_wp2
    go_ret
    exact ⟨rfl, rfl⟩
  have h1i : ¬ (s.size : Int) < 1 := by omega
  have h2i : ¬ (12 : Int) < (s.size : Int) := by omega
  have hp : nameOk l = l.all nb := by
    rw [nameOk, decide_eq_true (by omega), beq_eq_false_iff_ne.2 h3, beq_eq_false_iff_ne.2 h4]
    rfl
  rw [hp]
  have n3 := str_ne (a := s) (b := ⟨#[46]⟩) (fun e => h3 (by rw [← hl, e]))
  have n4 := str_ne (a := s) (b := ⟨#[46, 46]⟩) (fun e => h4 (by rw [← hl, e]))
  have n3' : (s.toList == [46]) = false := by rw [show ([46] : List UInt8) = (⟨#[46]⟩ : ByteArray).toList from by rw [ByteArray.toList_eq]]; exact n3
  have n4' : (s.toList == [46, 46]) = false := by rw [show ([46, 46] : List UInt8) = (⟨#[46, 46]⟩ : ByteArray).toList from by rw [ByteArray.toList_eq]]; exact n4
  have HL := Lib.hid hl
  have HZ := Lib.hid hsz
  clear h3 h4 hp n3 n4 hsz h1 h2
  go_enter Tryz.func91, Tryz.ntmps91
  go_wp2
  go_loop [3] (fun i => ∃ k : Nat, i = .int .i64 k ∧ k ≤ l.length ∧ (l.take k).all nb = true) (fun i => l.length - (intOf i).toNat)
  case atStart => exact ⟨0, rfl, by omega, by simp⟩
  case round =>
    obtain ⟨k, rfl, hk, ha⟩ := hrel
    by_cases hlt : k < l.length
    · have hki : (k : Int) < (s.size : Int) := by have := HZ.out; omega
      have hx := all_take l nb k hlt
      have hg : s[k]'(by have := HZ.out; omega) = l[k] := by subst hl; simp [ByteArray.getElem_eq_getElem_data]
      obtain ⟨u, hu⟩ : ∃ u, l[k] = u := ⟨_, rfl⟩
      rw [hu] at hg hx
      have hmem : u ∈ l := by rw [← hu]; exact List.getElem_mem hlt
      obtain ⟨c, hc⟩ : ∃ c, u.toNat = c := ⟨_, rfl⟩
      have hu8 : c < 256 := by rw [← hc]; exact u.toNat_lt
      have HX := Lib.hid hx
      have HM := Lib.hid hmem
      have HA := Lib.hid ha
      have HC := Lib.hid hc
      have gg : ((s[k]'(by have := HZ.out; omega)).toNat : Int) = (c : Int) := by rw [hg, hc]
      have gn : (s[k]'(by have := HZ.out; omega)).toNat = c := by rw [hg, hc]
      have hks : k < s.size := by have := HZ.out; omega
      clear hx hmem ha hc hu hg hl
      rcases (show c ≤ 44 ∨ c = 45 ∨ c = 46 ∨ c = 47 ∨ (48 ≤ c ∧ c ≤ 57) ∨ (58 ≤ c ∧ c ≤ 64) ∨ (65 ≤ c ∧ c ≤ 90) ∨ (91 ≤ c ∧ c ≤ 94) ∨ c = 95 ∨ c = 96 ∨ (97 ≤ c ∧ c ≤ 122) ∨ 123 ≤ c by omega) with hi | hi | hi | hi | hi | hi | hi | hi | hi | hi | hi | hi
      · have f0 : (c : Int) < 97 := by omega
        have f1 : ¬ (122 : Int) < (c : Int) := by omega
        have f2 : (c : Int) < 65 := by omega
        have f3 : ¬ (90 : Int) < (c : Int) := by omega
        have f4 : (c : Int) < 48 := by omega
        have f5 : ¬ (57 : Int) < (c : Int) := by omega
        have e45 : ((c : Int) == 45) = false := beq_eq_false_iff_ne.2 (by omega)
        have d45 : ¬ (c : Int) = 45 := by omega
        have g45 : ((c : Int) != 45) = true := by simp [bne, e45]
        have e46 : ((c : Int) == 46) = false := beq_eq_false_iff_ne.2 (by omega)
        have d46 : ¬ (c : Int) = 46 := by omega
        have g46 : ((c : Int) != 46) = true := by simp [bne, e46]
        have e95 : ((c : Int) == 95) = false := beq_eq_false_iff_ne.2 (by omega)
        have d95 : ¬ (c : Int) = 95 := by omega
        have g95 : ((c : Int) != 95) = true := by simp [bne, e95]
        have HB := Lib.hid (show nb u = false from by unfold nb byteOk; exact decide_eq_false (by have := HC.out; omega))
        clear hi
        go_wp2
        go_ret
        exact ⟨by rw [show l.all nb = false from List.all_eq_false.2 ⟨u, HM.out, by rw [HB.out]; decide⟩]; rfl, rfl⟩
      · have f0 : (c : Int) < 97 := by omega
        have f1 : ¬ (122 : Int) < (c : Int) := by omega
        have f2 : (c : Int) < 65 := by omega
        have f3 : ¬ (90 : Int) < (c : Int) := by omega
        have f4 : (c : Int) < 48 := by omega
        have f5 : ¬ (57 : Int) < (c : Int) := by omega
        have e45 : ((c : Int) == 45) = true := beq_iff_eq.2 (by omega)
        have d45 : (c : Int) = 45 := by omega
        have g45 : ((c : Int) != 45) = false := by simp [bne, e45]
        have e46 : ((c : Int) == 46) = false := beq_eq_false_iff_ne.2 (by omega)
        have d46 : ¬ (c : Int) = 46 := by omega
        have g46 : ((c : Int) != 46) = true := by simp [bne, e46]
        have e95 : ((c : Int) == 95) = false := beq_eq_false_iff_ne.2 (by omega)
        have d95 : ¬ (c : Int) = 95 := by omega
        have g95 : ((c : Int) != 95) = true := by simp [bne, e95]
        have HB := Lib.hid (show nb u = true from by unfold nb byteOk; exact decide_eq_true (by have := HC.out; omega))
        clear hi
        go_wp2
        go_round
        case rel => exact ⟨k + 1, by go_num, by omega, by rw [HX.out, HA.out, HB.out]; rfl⟩
        case measure => simp [intOf]; omega
      · have f0 : (c : Int) < 97 := by omega
        have f1 : ¬ (122 : Int) < (c : Int) := by omega
        have f2 : (c : Int) < 65 := by omega
        have f3 : ¬ (90 : Int) < (c : Int) := by omega
        have f4 : (c : Int) < 48 := by omega
        have f5 : ¬ (57 : Int) < (c : Int) := by omega
        have e45 : ((c : Int) == 45) = false := beq_eq_false_iff_ne.2 (by omega)
        have d45 : ¬ (c : Int) = 45 := by omega
        have g45 : ((c : Int) != 45) = true := by simp [bne, e45]
        have e46 : ((c : Int) == 46) = true := beq_iff_eq.2 (by omega)
        have d46 : (c : Int) = 46 := by omega
        have g46 : ((c : Int) != 46) = false := by simp [bne, e46]
        have e95 : ((c : Int) == 95) = false := beq_eq_false_iff_ne.2 (by omega)
        have d95 : ¬ (c : Int) = 95 := by omega
        have g95 : ((c : Int) != 95) = true := by simp [bne, e95]
        have HB := Lib.hid (show nb u = true from by unfold nb byteOk; exact decide_eq_true (by have := HC.out; omega))
        clear hi
        go_wp2
        go_round
        case rel => exact ⟨k + 1, by go_num, by omega, by rw [HX.out, HA.out, HB.out]; rfl⟩
        case measure => simp [intOf]; omega
      · have f0 : (c : Int) < 97 := by omega
        have f1 : ¬ (122 : Int) < (c : Int) := by omega
        have f2 : (c : Int) < 65 := by omega
        have f3 : ¬ (90 : Int) < (c : Int) := by omega
        have f4 : (c : Int) < 48 := by omega
        have f5 : ¬ (57 : Int) < (c : Int) := by omega
        have e45 : ((c : Int) == 45) = false := beq_eq_false_iff_ne.2 (by omega)
        have d45 : ¬ (c : Int) = 45 := by omega
        have g45 : ((c : Int) != 45) = true := by simp [bne, e45]
        have e46 : ((c : Int) == 46) = false := beq_eq_false_iff_ne.2 (by omega)
        have d46 : ¬ (c : Int) = 46 := by omega
        have g46 : ((c : Int) != 46) = true := by simp [bne, e46]
        have e95 : ((c : Int) == 95) = false := beq_eq_false_iff_ne.2 (by omega)
        have d95 : ¬ (c : Int) = 95 := by omega
        have g95 : ((c : Int) != 95) = true := by simp [bne, e95]
        have HB := Lib.hid (show nb u = false from by unfold nb byteOk; exact decide_eq_false (by have := HC.out; omega))
        clear hi
        go_wp2
        go_ret
        exact ⟨by rw [show l.all nb = false from List.all_eq_false.2 ⟨u, HM.out, by rw [HB.out]; decide⟩]; rfl, rfl⟩
      · have f0 : (c : Int) < 97 := by omega
        have f1 : ¬ (122 : Int) < (c : Int) := by omega
        have f2 : (c : Int) < 65 := by omega
        have f3 : ¬ (90 : Int) < (c : Int) := by omega
        have f4 : ¬ (c : Int) < 48 := by omega
        have f5 : ¬ (57 : Int) < (c : Int) := by omega
        have e45 : ((c : Int) == 45) = false := beq_eq_false_iff_ne.2 (by omega)
        have d45 : ¬ (c : Int) = 45 := by omega
        have g45 : ((c : Int) != 45) = true := by simp [bne, e45]
        have e46 : ((c : Int) == 46) = false := beq_eq_false_iff_ne.2 (by omega)
        have d46 : ¬ (c : Int) = 46 := by omega
        have g46 : ((c : Int) != 46) = true := by simp [bne, e46]
        have e95 : ((c : Int) == 95) = false := beq_eq_false_iff_ne.2 (by omega)
        have d95 : ¬ (c : Int) = 95 := by omega
        have g95 : ((c : Int) != 95) = true := by simp [bne, e95]
        have HB := Lib.hid (show nb u = true from by unfold nb byteOk; exact decide_eq_true (by have := HC.out; omega))
        clear hi
        go_wp2
        go_round
        case rel => exact ⟨k + 1, by go_num, by omega, by rw [HX.out, HA.out, HB.out]; rfl⟩
        case measure => simp [intOf]; omega
      · have f0 : (c : Int) < 97 := by omega
        have f1 : ¬ (122 : Int) < (c : Int) := by omega
        have f2 : (c : Int) < 65 := by omega
        have f3 : ¬ (90 : Int) < (c : Int) := by omega
        have f4 : ¬ (c : Int) < 48 := by omega
        have f5 : (57 : Int) < (c : Int) := by omega
        have e45 : ((c : Int) == 45) = false := beq_eq_false_iff_ne.2 (by omega)
        have d45 : ¬ (c : Int) = 45 := by omega
        have g45 : ((c : Int) != 45) = true := by simp [bne, e45]
        have e46 : ((c : Int) == 46) = false := beq_eq_false_iff_ne.2 (by omega)
        have d46 : ¬ (c : Int) = 46 := by omega
        have g46 : ((c : Int) != 46) = true := by simp [bne, e46]
        have e95 : ((c : Int) == 95) = false := beq_eq_false_iff_ne.2 (by omega)
        have d95 : ¬ (c : Int) = 95 := by omega
        have g95 : ((c : Int) != 95) = true := by simp [bne, e95]
        have HB := Lib.hid (show nb u = false from by unfold nb byteOk; exact decide_eq_false (by have := HC.out; omega))
        clear hi
        go_wp2
        go_ret
        exact ⟨by rw [show l.all nb = false from List.all_eq_false.2 ⟨u, HM.out, by rw [HB.out]; decide⟩]; rfl, rfl⟩
      · have f0 : (c : Int) < 97 := by omega
        have f1 : ¬ (122 : Int) < (c : Int) := by omega
        have f2 : ¬ (c : Int) < 65 := by omega
        have f3 : ¬ (90 : Int) < (c : Int) := by omega
        have f4 : ¬ (c : Int) < 48 := by omega
        have f5 : (57 : Int) < (c : Int) := by omega
        have e45 : ((c : Int) == 45) = false := beq_eq_false_iff_ne.2 (by omega)
        have d45 : ¬ (c : Int) = 45 := by omega
        have g45 : ((c : Int) != 45) = true := by simp [bne, e45]
        have e46 : ((c : Int) == 46) = false := beq_eq_false_iff_ne.2 (by omega)
        have d46 : ¬ (c : Int) = 46 := by omega
        have g46 : ((c : Int) != 46) = true := by simp [bne, e46]
        have e95 : ((c : Int) == 95) = false := beq_eq_false_iff_ne.2 (by omega)
        have d95 : ¬ (c : Int) = 95 := by omega
        have g95 : ((c : Int) != 95) = true := by simp [bne, e95]
        have HB := Lib.hid (show nb u = true from by unfold nb byteOk; exact decide_eq_true (by have := HC.out; omega))
        clear hi
        go_wp2
        go_round
        case rel => exact ⟨k + 1, by go_num, by omega, by rw [HX.out, HA.out, HB.out]; rfl⟩
        case measure => simp [intOf]; omega
      · have f0 : (c : Int) < 97 := by omega
        have f1 : ¬ (122 : Int) < (c : Int) := by omega
        have f2 : ¬ (c : Int) < 65 := by omega
        have f3 : (90 : Int) < (c : Int) := by omega
        have f4 : ¬ (c : Int) < 48 := by omega
        have f5 : (57 : Int) < (c : Int) := by omega
        have e45 : ((c : Int) == 45) = false := beq_eq_false_iff_ne.2 (by omega)
        have d45 : ¬ (c : Int) = 45 := by omega
        have g45 : ((c : Int) != 45) = true := by simp [bne, e45]
        have e46 : ((c : Int) == 46) = false := beq_eq_false_iff_ne.2 (by omega)
        have d46 : ¬ (c : Int) = 46 := by omega
        have g46 : ((c : Int) != 46) = true := by simp [bne, e46]
        have e95 : ((c : Int) == 95) = false := beq_eq_false_iff_ne.2 (by omega)
        have d95 : ¬ (c : Int) = 95 := by omega
        have g95 : ((c : Int) != 95) = true := by simp [bne, e95]
        have HB := Lib.hid (show nb u = false from by unfold nb byteOk; exact decide_eq_false (by have := HC.out; omega))
        clear hi
        go_wp2
        go_ret
        exact ⟨by rw [show l.all nb = false from List.all_eq_false.2 ⟨u, HM.out, by rw [HB.out]; decide⟩]; rfl, rfl⟩
      · have f0 : (c : Int) < 97 := by omega
        have f1 : ¬ (122 : Int) < (c : Int) := by omega
        have f2 : ¬ (c : Int) < 65 := by omega
        have f3 : (90 : Int) < (c : Int) := by omega
        have f4 : ¬ (c : Int) < 48 := by omega
        have f5 : (57 : Int) < (c : Int) := by omega
        have e45 : ((c : Int) == 45) = false := beq_eq_false_iff_ne.2 (by omega)
        have d45 : ¬ (c : Int) = 45 := by omega
        have g45 : ((c : Int) != 45) = true := by simp [bne, e45]
        have e46 : ((c : Int) == 46) = false := beq_eq_false_iff_ne.2 (by omega)
        have d46 : ¬ (c : Int) = 46 := by omega
        have g46 : ((c : Int) != 46) = true := by simp [bne, e46]
        have e95 : ((c : Int) == 95) = true := beq_iff_eq.2 (by omega)
        have d95 : (c : Int) = 95 := by omega
        have g95 : ((c : Int) != 95) = false := by simp [bne, e95]
        have HB := Lib.hid (show nb u = true from by unfold nb byteOk; exact decide_eq_true (by have := HC.out; omega))
        clear hi
        go_wp2
        go_round
        case rel => exact ⟨k + 1, by go_num, by omega, by rw [HX.out, HA.out, HB.out]; rfl⟩
        case measure => simp [intOf]; omega
      · have f0 : (c : Int) < 97 := by omega
        have f1 : ¬ (122 : Int) < (c : Int) := by omega
        have f2 : ¬ (c : Int) < 65 := by omega
        have f3 : (90 : Int) < (c : Int) := by omega
        have f4 : ¬ (c : Int) < 48 := by omega
        have f5 : (57 : Int) < (c : Int) := by omega
        have e45 : ((c : Int) == 45) = false := beq_eq_false_iff_ne.2 (by omega)
        have d45 : ¬ (c : Int) = 45 := by omega
        have g45 : ((c : Int) != 45) = true := by simp [bne, e45]
        have e46 : ((c : Int) == 46) = false := beq_eq_false_iff_ne.2 (by omega)
        have d46 : ¬ (c : Int) = 46 := by omega
        have g46 : ((c : Int) != 46) = true := by simp [bne, e46]
        have e95 : ((c : Int) == 95) = false := beq_eq_false_iff_ne.2 (by omega)
        have d95 : ¬ (c : Int) = 95 := by omega
        have g95 : ((c : Int) != 95) = true := by simp [bne, e95]
        have HB := Lib.hid (show nb u = false from by unfold nb byteOk; exact decide_eq_false (by have := HC.out; omega))
        clear hi
        go_wp2
        go_ret
        exact ⟨by rw [show l.all nb = false from List.all_eq_false.2 ⟨u, HM.out, by rw [HB.out]; decide⟩]; rfl, rfl⟩
      · have f0 : ¬ (c : Int) < 97 := by omega
        have f1 : ¬ (122 : Int) < (c : Int) := by omega
        have f2 : ¬ (c : Int) < 65 := by omega
        have f3 : (90 : Int) < (c : Int) := by omega
        have f4 : ¬ (c : Int) < 48 := by omega
        have f5 : (57 : Int) < (c : Int) := by omega
        have e45 : ((c : Int) == 45) = false := beq_eq_false_iff_ne.2 (by omega)
        have d45 : ¬ (c : Int) = 45 := by omega
        have g45 : ((c : Int) != 45) = true := by simp [bne, e45]
        have e46 : ((c : Int) == 46) = false := beq_eq_false_iff_ne.2 (by omega)
        have d46 : ¬ (c : Int) = 46 := by omega
        have g46 : ((c : Int) != 46) = true := by simp [bne, e46]
        have e95 : ((c : Int) == 95) = false := beq_eq_false_iff_ne.2 (by omega)
        have d95 : ¬ (c : Int) = 95 := by omega
        have g95 : ((c : Int) != 95) = true := by simp [bne, e95]
        have HB := Lib.hid (show nb u = true from by unfold nb byteOk; exact decide_eq_true (by have := HC.out; omega))
        clear hi
        go_wp2
        go_round
        case rel => exact ⟨k + 1, by go_num, by omega, by rw [HX.out, HA.out, HB.out]; rfl⟩
        case measure => simp [intOf]; omega
      · have f0 : ¬ (c : Int) < 97 := by omega
        have f1 : (122 : Int) < (c : Int) := by omega
        have f2 : ¬ (c : Int) < 65 := by omega
        have f3 : (90 : Int) < (c : Int) := by omega
        have f4 : ¬ (c : Int) < 48 := by omega
        have f5 : (57 : Int) < (c : Int) := by omega
        have e45 : ((c : Int) == 45) = false := beq_eq_false_iff_ne.2 (by omega)
        have d45 : ¬ (c : Int) = 45 := by omega
        have g45 : ((c : Int) != 45) = true := by simp [bne, e45]
        have e46 : ((c : Int) == 46) = false := beq_eq_false_iff_ne.2 (by omega)
        have d46 : ¬ (c : Int) = 46 := by omega
        have g46 : ((c : Int) != 46) = true := by simp [bne, e46]
        have e95 : ((c : Int) == 95) = false := beq_eq_false_iff_ne.2 (by omega)
        have d95 : ¬ (c : Int) = 95 := by omega
        have g95 : ((c : Int) != 95) = true := by simp [bne, e95]
        have HB := Lib.hid (show nb u = false from by unfold nb byteOk; exact decide_eq_false (by have := HC.out; omega))
        clear hi
        go_wp2
        go_ret
        exact ⟨by rw [show l.all nb = false from List.all_eq_false.2 ⟨u, HM.out, by rw [HB.out]; decide⟩]; rfl, rfl⟩
    · have hki : ¬ (k : Int) < (s.size : Int) := by have := HZ.out; omega
      have hf : l.all nb = true := by rw [List.take_of_length_le (by omega)] at ha; exact ha
      have HF := Lib.hid hf
      clear hf ha
      go_wp2
      go_ret
      exact ⟨by rw [HF.out]; rfl, rfl⟩

set_option maxRecDepth 10000 in
set_option maxHeartbeats 2000000 in
theorem refPath_any (w : World) (s : ByteArray) (l : List UInt8) (hl : s.data.toList = l) (hs : l.length ≤ 100000) :
    Calls Tryz.prog 71 #[.string s] w fun e w' => e = .returned (.bool (pathOk l)) ∧ w.grownBy w' none := by
  obtain rfl := bytes_of hl
  clear hl
  by_cases h1 : l = [47]
  · subst h1
    rw [show pathOk [47] = true from by decide]
    clear hs
    go_enter Tryz.func71, Tryz.ntmps71
    go_wp2
    go_ret
    exact ⟨rfl, World.grownBy.refl _ _⟩
  have n1 : (l == [47]) = false := beq_eq_false_iff_ne.2 h1
  have hsz : (⟨l.toArray⟩ : ByteArray).size = l.length := rfl
  by_cases h2 : l.length < 2
  · have hp : pathOk l = false := by
      match l, h1, h2 with
      | [], _, _ => decide
      | [a], h, _ =>
        have ha : a ≠ 47 := fun e => h (by rw [e])
        have hn : (([a] : List UInt8) == [47]) = false := beq_eq_false_iff_ne.2 h
        rw [pathOk, hn]
        simp [ha]
    have h2i : ((⟨l.toArray⟩ : ByteArray).size : Int) < 2 := by omega
    have h2j : (l.length : Int) < 2 := by omega
    rw [hp]
    clear hp hs h1
    go_enter Tryz.func71, Tryz.ntmps71
    go_wp2
    go_ret
    exact ⟨rfl, World.grownBy.refl _ _⟩
  obtain ⟨a, t, rfl⟩ : ∃ a t, l = a :: t := by
    cases l with
    | nil => simp at h2
    | cons a t => exact ⟨a, t, rfl⟩
  have h2i : ¬ (((⟨(a :: t).toArray⟩ : ByteArray).size : Nat) : Int) < 2 := by rw [hsz]; omega
  have h2j : ¬ (((a :: t).length : Nat) : Int) < 2 := by omega
  have ga : (⟨(a :: t).toArray⟩ : ByteArray)[0]'(by rw [hsz]; simp) = a := rfl
  obtain ⟨s, hsd⟩ : ∃ s : ByteArray, s = ⟨(a :: t).toArray⟩ := ⟨_, rfl⟩
  have hst : s.data.toList = a :: t := by rw [hsd]
  have hss : s.size = t.length + 1 := by rw [hsd]; rfl
  have n1' := str_ne (a := s) (b := ⟨#[47]⟩) (fun e => h1 (by rw [← hst, e]))
  have n1'' : (s.toList == [47]) = false := by rw [show ([47] : List UInt8) = (⟨#[47]⟩ : ByteArray).toList from by rw [ByteArray.toList_eq]]; exact n1'
  rw [← hsd]
  have h2k : ¬ (s.size : Int) < 2 := by rw [hss]; simp at h2; omega
  have h0s : 0 < s.size := by omega
  have gs : (s[0]'h0s) = a := by subst hsd; rfl
  have gn : ((s[0]'h0s).toNat : Int) = (a.toNat : Int) := by rw [gs]
  by_cases h3 : a = 47
  · subst h3
    have hp : pathOk (47 :: t) = (decide (t.count 47 < 6) && (pieces1 47 t).all nameOk) := by
      rw [pathOk, n1]; rfl
    rw [hp]
    have a47 : ((s[0]'h0s).toNat : Int) = 47 := by rw [gs]; rfl
    have a47' : (((s[0]'h0s).toNat : Int) == 47) = true := beq_iff_eq.2 a47
    have a47'' : (((s[0]'h0s).toNat : Int) != 47) = false := by simp [a47]
    have hex : s.extract 1 s.size = ⟨t.toArray⟩ := bytes_of (by rw [ext_data s _ hst, hss]; simp)
    have h1s : (1 : Int) ≤ (s.size : Int) := by omega
    obtain ⟨m, hm⟩ : ∃ m, (pieces1 47 t).length = m := ⟨_, rfl⟩
    have HM := Lib.hid hm
    have HCT := Lib.hid (show m = t.count 47 + 1 by rw [← hm, pieces_count])
    have HTL := Lib.hid (show t.length ≤ 100000 by simp at hs; omega)
    have HML := Lib.hid (show m ≤ 1000000 by rw [← hm]; have := pieces_len 47 t; have := HTL.out; omega)
    have SP := Lib.hid (fun W => refSplit_any W ⟨t.toArray⟩ t rfl 47 HTL.out)
    have HEX := Lib.hid hex
    clear hp hm hex hs h1 n1 hsz h2 h2i h2j ga gn hsd hst hss n1' gs
    go_enter Tryz.func71, Tryz.ntmps71
    go_wp2_with (go_at_call 76; rw [HEX.out]; refine (SP.out _).mono ?_; rintro e w1 ⟨v1, rfl, hr1, hg1⟩; (obtain ⟨A1, c1, hv1, hsr1, -⟩ := hr1.shape); rw [List.length_map, HM.out] at hv1; subst hv1; have G1 := Lib.hid hg1; have SR1 := Lib.hid hsr1; clear hg1 hsr1 hr1)
    go_loopw [4] (fun i wr => ∃ k : Nat, i = .int .i64 k ∧ k ≤ m ∧ ((pieces1 47 t).take k).all nameOk = true ∧ wr = w1) (fun i _ => m - (intOf i).toNat)
    case atStart => exact ⟨0, rfl, Nat.zero_le _, by simp, rfl⟩
    case round =>
      obtain ⟨k, rfl, hk, ha, rfl⟩ := hrel
      have hml := HML.out
      by_cases hlt : k < m
      · have hki : (k : Int) < (m : Int) := by omega
        have hkp : k < (pieces1 47 t).length := by rw [HM.out]; exact hlt
        obtain ⟨x, hx⟩ : ∃ x, (pieces1 47 t)[k] = x := ⟨_, rfl⟩
        obtain ⟨ab, ao, hAe, -, hcells⟩ := SR1.out.elem (k := k) (by rw [List.length_map]; exact hkp)
        have q1 : wr.cell? ⟨ab, ao + k, none⟩ = some (.string ⟨x.toArray⟩) := by
          have := hcells 0 (.string ⟨x.toArray⟩) (by rw [List.getElem_map, hx]; rfl)
          rwa [Nat.one_mul, Nat.add_zero] at this
        have HAT := Lib.hid (show ((pieces1 47 t).take (k + 1)).all nameOk = (((pieces1 47 t).take k).all nameOk && nameOk x) by
          rw [List.take_succ_eq_append_getElem hkp, List.all_append, hx]; simp)
        have HXM := Lib.hid (show x ∈ pieces1 47 t by rw [← hx]; exact List.getElem_mem hkp)
        have NA := Lib.hid (fun W => refName_any ⟨x.toArray⟩ x rfl W (by have := pieces_size 47 t x HXM.out; have := HTL.out; omega))
        have HA := Lib.hid ha
        subst hAe
        clear hcells hx ha hkp
        cases hok : nameOk x with
        | true =>
          have HO := Lib.hid hok
          clear hok
          go_wp2_with (go_at_call 91; refine (NA.out _).mono ?_; rintro e w5 ⟨rfl, rfl⟩; rw [HO.out])
          go_roundw
          case rel => exact ⟨k + 1, by go_num, by omega, by rw [HAT.out, HA.out, HO.out]; rfl, by first | rfl | trivial⟩
          case measure => simp [intOf]; omega
        | false =>
          have HO := Lib.hid hok
          clear hok
          go_wp2_with (go_at_call 91; refine (NA.out _).mono ?_; rintro e w5 ⟨rfl, rfl⟩; rw [HO.out])
          go_ret
          exact ⟨by rw [show (pieces1 47 t).all nameOk = false from List.all_eq_false.2 ⟨x, HXM.out, by rw [HO.out]; decide⟩, Bool.and_false]; rfl, G1.out⟩
      · have hki : ¬ (k : Int) < (m : Int) := by omega
        have hall : (pieces1 47 t).all nameOk = true := by rw [List.take_of_length_le (by rw [HM.out]; omega)] at ha; exact ha
        have HAL := Lib.hid hall
        clear ha hall
        by_cases h6 : m ≤ 6
        · have h6i : (m : Int) ≤ 6 := by omega
          go_wp2
          go_ret
          exact ⟨by rw [HAL.out, decide_eq_true (by have := HCT.out; omega)]; rfl, G1.out⟩
        · have h6i : ¬ (m : Int) ≤ 6 := by omega
          go_wp2
          go_ret
          exact ⟨by rw [decide_eq_false (by have := HCT.out; omega)]; rfl, G1.out⟩
  · have hp : pathOk (a :: t) = false := by
      rw [pathOk, n1]; simp [h3]
    rw [hp]
    have a47 : ¬ (a.toNat : Int) = 47 := fun e => h3 (UInt8.toNat.inj (by show a.toNat = 47; omega))
    have a47s : ¬ ((s[0]'h0s).toNat : Int) = 47 := by rw [gs]; exact a47
    have a47' : (((s[0]'h0s).toNat : Int) == 47) = false := beq_eq_false_iff_ne.2 a47s
    clear hp hs h1 n1 hsz h2 h2i h2j ga gn hsd hst hss n1' gs h3
    go_enter Tryz.func71, Tryz.ntmps71
    go_wp2
    go_ret
    exact ⟨rfl, World.grownBy.refl _ _⟩
end Go.Proofs.YtlkchajkhplapaaGreatDoor
