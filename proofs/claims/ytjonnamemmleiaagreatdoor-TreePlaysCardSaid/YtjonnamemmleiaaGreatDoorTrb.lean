/- The small functions of tree: names, the last part of a path, its parent. -/
import Derived.Test.YtjonnamemmleiaaGreatDoorTra
import Derived.WalkKit
namespace Go.Proofs.YtjonnamemmleiaaGreatDoor
open Go.RowKit

theorem str_ne {a b : ByteArray} (h : a ≠ b) : (a.toList == b.toList) = false := by
  rw [beq_eq_false_iff_ne, ByteArray.toList_eq, ByteArray.toList_eq]
  intro e
  exact h (ByteArray.ext (Array.ext' e))
theorem all_take (l : List UInt8) (f : UInt8 → Bool) (k : Nat) (hk : k < l.length) : (l.take (k + 1)).all f = ((l.take k).all f && f l[k]) := by
  rw [List.take_succ_eq_append_getElem hk, List.all_append]
  simp
def nb (c : UInt8) : Bool := byteOk c.toNat
theorem bytes_of {s : ByteArray} {l : List UInt8} (h : s.data.toList = l) : s = ⟨l.toArray⟩ := by
  apply ByteArray.ext
  rw [← h]
set_option maxHeartbeats 1000000 in
theorem rightName_any (s : ByteArray) (l : List UInt8) (hl : s.data.toList = l) (w : World) (hm : l.length ≤ 1000000) :
    Calls Tryz.prog 90 #[.string s] w fun e w' => e = .returned (.bool (nameOk l)) ∧ w' = w := by
  have hsz : s.size = l.length := by rw [← hl]; rfl
  by_cases h1 : l.length < 1
  · have hp : nameOk l = false := by rw [nameOk, decide_eq_false (by omega)]; rfl
    have h1i : (s.size : Int) < 1 := by omega
    rw [hp]
    clear hl
    go_enter Tryz.func90, Tryz.ntmps90
    go_wp2
    go_ret
    exact ⟨rfl, rfl⟩
  by_cases h2 : 12 < l.length
  · have hp : nameOk l = false := by rw [nameOk, decide_eq_false (by omega)]; rfl
    have h1i : ¬ (s.size : Int) < 1 := by omega
    have h2i : (12 : Int) < (s.size : Int) := by omega
    rw [hp]
    clear hl
    go_enter Tryz.func90, Tryz.ntmps90
    go_wp2
    go_ret
    exact ⟨rfl, rfl⟩
  by_cases h3 : l = [46]
  · have hs := bytes_of hl
    subst h3
    subst hs
    have hp : nameOk [46] = false := by decide
    rw [hp]
    clear hl hsz
    go_enter Tryz.func90, Tryz.ntmps90
    go_wp2
    go_ret
    exact ⟨rfl, rfl⟩
  by_cases h4 : l = [46, 46]
  · have hs := bytes_of hl
    subst h4
    subst hs
    have hp : nameOk [46, 46] = false := by decide
    rw [hp]
    clear hl hsz
    go_enter Tryz.func90, Tryz.ntmps90
    go_wp2
    go_ret
    exact ⟨rfl, rfl⟩
  have h1i : ¬ (s.size : Int) < 1 := by omega
  have h2i : ¬ (12 : Int) < (s.size : Int) := by omega
  have hp : nameOk l = l.all nb := by
    rw [nameOk, decide_eq_true (by omega), beq_eq_false_iff_ne.2 h3, beq_eq_false_iff_ne.2 h4]
    rfl
  rw [hp]
  have n3 := str_ne (a := s) (b := ⟨#[46]⟩) (fun e => h3 (by rw [← hl, e]))
  have n4 := str_ne (a := s) (b := ⟨#[46, 46]⟩) (fun e => h4 (by rw [← hl, e]))
  have n3' : (s.toList == [46]) = false := by rw [show ([46] : List UInt8) = (⟨#[46]⟩ : ByteArray).toList from by rw [ByteArray.toList_eq]]; exact n3
  have n4' : (s.toList == [46, 46]) = false := by rw [show ([46, 46] : List UInt8) = (⟨#[46, 46]⟩ : ByteArray).toList from by rw [ByteArray.toList_eq]]; exact n4
  have HL := Lib.hid hl
  have HZ := Lib.hid hsz
  clear h3 h4 hp n3 n4 hsz h1 h2
  go_enter Tryz.func90, Tryz.ntmps90
  go_wp2
  go_loop [22] (fun i => ∃ k : Nat, i = .int .i64 k ∧ k ≤ l.length ∧ (l.take k).all nb = true) (fun i => l.length - (intOf i).toNat)
  case atStart => exact ⟨0, rfl, by omega, by simp⟩
  case round =>
    obtain ⟨k, rfl, hk, ha⟩ := hrel
    by_cases hlt : k < l.length
    · have hki : (k : Int) < (s.size : Int) := by have := HZ.out; omega
      have hx := all_take l nb k hlt
      have hg : s[k]'(by have := HZ.out; omega) = l[k] := by subst hl; simp [ByteArray.getElem_eq_getElem_data]
      have hu : l[k].toNat < 256 := l[k].toNat_lt
      have HU := Lib.hid hu
      cases hb : nb l[k] with
      | false =>
        have hf : l.all nb = false := by
          rw [List.all_eq_false]
          exact ⟨_, List.getElem_mem hlt, by simp [hb]⟩
        have HF := Lib.hid hf
        have HB := Lib.hid (show byteOk l[k].toNat = false from hb)
        clear ha hx hf hb hu
        go_wp2_with (go_at_call 111; refine (rightByte_any _ _ HU.out).mono ?_; rintro e w1 ⟨rfl, rfl⟩; rw [HB.out])
        go_ret
        exact ⟨by rw [HF.out]; rfl, rfl⟩
      | true =>
        have HX := Lib.hid (show (l.take (k + 1)).all nb = true by rw [hx, ha, hb]; rfl)
        have HB := Lib.hid (show byteOk l[k].toNat = true from hb)
        clear ha hx hb hu
        go_wp2_with (go_at_call 111; refine (rightByte_any _ _ HU.out).mono ?_; rintro e w1 ⟨rfl, rfl⟩; rw [HB.out])
        go_round
        case rel => exact ⟨k + 1, by go_num, by omega, HX.out⟩
        case measure => simp [intOf]; omega
    · have hki : ¬ (k : Int) < (s.size : Int) := by have := HZ.out; omega
      have hf : l.all nb = true := by rw [List.take_of_length_le (by omega)] at ha; exact ha
      have HF := Lib.hid hf
      clear hf ha
      go_wp2
      go_ret
      exact ⟨by rw [HF.out]; rfl, rfl⟩

theorem ext_data (s : ByteArray) (l : List UInt8) (hl : s.data.toList = l) (a b : Nat) : (s.extract a b).data.toList = (l.take b).drop a := by
  subst hl
  simp [ByteArray.data_extract, Array.toList_extract, List.extract, List.drop_take]
theorem last_idx {s : ByteArray} {a b : List UInt8} {c : UInt8} (h : s.data.toList = a ++ c :: b) (hb : c ∉ b) : Go.Lib.lastIndexByte s (c.toNat : Int) = (a.length : Int) := by
  have hz : s.size = a.length + 1 + b.length := by
    have : s.size = s.data.toList.length := rfl
    rw [this, h, List.length_append, List.length_cons]; omega
  have at_ (j : Nat) (hj : j < s.size) : s.data[j]! = (a ++ c :: b)[j]'(by rw [← h]; exact hj) := by
    have hj' : j < s.data.size := hj
    rw [getElem!_pos s.data j hj']
    simp only [← h, Array.getElem_toList]
  have hat : s.data[a.length]! = c := by
    rw [at_ a.length (by omega), List.getElem_append_right (Nat.le_refl _)]
    simp
  rcases Go.Lib.lastIndexByte_spec s (c.toNat : Int) with ⟨_, hn⟩ | ⟨i, hi, e, hc, hn⟩
  · exact absurd (by rw [hat]) (hn a.length (by omega))
  · rw [e]
    rcases Nat.lt_trichotomy i a.length with h1 | h1 | h1
    · exact absurd (by rw [hat]) (hn a.length h1 (by omega))
    · rw [h1]
    · exfalso
      have hx : s.data[i]! = c := by
        have : (s.data[i]!).toNat = c.toNat := by omega
        exact UInt8.toNat.inj this
      rw [at_ i hi, List.getElem_append_right (by omega)] at hx
      obtain ⟨d, hd⟩ : ∃ d, i - a.length = d + 1 := ⟨i - a.length - 1, by omega⟩
      simp only [hd, List.getElem_cons_succ] at hx
      exact hb (hx ▸ List.getElem_mem _)
theorem clone_any (s : ByteArray) (w : World) (hs : s.size ≤ 1000000) : Calls Tryz.prog 59 #[.string s] w fun e w' => e = .returned (.string s) ∧ Below w.heap.size w w' := by
  go_enter Tryz.func59, Tryz.ntmps59
  go_wp2_with (go_at_call 87; refine (sh_stringslite_Clone s _ (by omega)).mono ?_; rintro e w1 ⟨rfl, hb1⟩)
  go_ret
  exact ⟨rfl, hb1⟩
theorem lastIndex_any (s : ByteArray) (a b : List UInt8) (h : s.data.toList = a ++ 47 :: b) (hb : (47 : UInt8) ∉ b) (hs : s.size ≤ 1000000) (w : World) :
    Calls Tryz.prog 104 #[.string s, .string ⟨#[47]⟩] w fun e w' => e = .returned (.int .i64 (a.length : Int)) ∧ w' = w := by
  refine (sh_strings_LastIndex_one s ⟨#[47]⟩ rfl (by omega) w).mono ?_
  rintro e w' ⟨rfl, rfl⟩
  have := last_idx (c := 47) h hb
  exact ⟨congrArg (fun x => Ending.returned (.int .i64 x)) this, rfl⟩
set_option maxHeartbeats 1000000 in
theorem last_any (s : ByteArray) (a b : List UInt8) (h : s.data.toList = a ++ 47 :: b) (hb : (47 : UInt8) ∉ b) (hs : s.size ≤ 1000000) (w : World) :
    Calls Tryz.prog 85 #[.string s] w fun e w' => ∃ r : ByteArray, e = .returned (.string r) ∧ r.data.toList = b ∧ Below w.heap.size w w' := by
  have hz : s.size = a.length + 1 + b.length := by
    have : s.size = s.data.toList.length := rfl
    rw [this, h, List.length_append, List.length_cons]; omega
  have hr : (s.extract (a.length + 1) s.size).data.toList = b := by
    rw [ext_data s _ h, List.take_of_length_le (by simp; omega), List.drop_append, List.drop_eq_nil_of_le (by omega)]
    simp
  have HR := Lib.hid hr
  have HS := Lib.hid hs
  have LI := Lib.hid (fun w => lastIndex_any s a b h hb hs w)
  obtain ⟨n, hn⟩ : ∃ n, n = a.length := ⟨_, rfl⟩
  rw [← hn] at HR LI hz
  have hi : (n : Int) + 1 ≤ (s.size : Int) := by omega
  have hlim : (s.size : Int) ≤ 1000000 := by omega
  have HE := Lib.hid (show (s.extract (n + 1) s.size).size ≤ 1000000 by rw [ByteArray.size_extract]; omega)
  clear h hb hr hs hz hn
  go_enter Tryz.func85, Tryz.ntmps85
  go_wp2_with (first
    | (go_at_call 104; refine (LI.out _).mono ?_; rintro e w1 ⟨rfl, rfl⟩)
    | (go_at_call 59; refine (clone_any _ _ HE.out).mono ?_; rintro e w1 ⟨rfl, hb1⟩))
  go_ret
  exact ⟨_, rfl, HR.out, hb1⟩
set_option maxHeartbeats 1000000 in
theorem parent_any (s : ByteArray) (a b : List UInt8) (h : s.data.toList = a ++ 47 :: b) (hb : (47 : UInt8) ∉ b) (hs : s.size ≤ 1000000) (w : World) :
    Calls Tryz.prog 84 #[.string s] w fun e w' => ∃ r : ByteArray, e = .returned (.string r) ∧ r.data.toList = (a ++ 47 :: b).take (max a.length 1) ∧ w' = w := by
  have hz : s.size = a.length + 1 + b.length := by
    have : s.size = s.data.toList.length := rfl
    rw [this, h, List.length_append, List.length_cons]; omega
  have hr : (s.extract 0 (max a.length 1)).data.toList = (a ++ 47 :: b).take (max a.length 1) := by
    rw [ext_data s _ h, List.drop_zero]
  rw [← hr]
  have LI := Lib.hid (fun w => lastIndex_any s a b h hb hs w)
  obtain ⟨n, hn⟩ : ∃ n, n = a.length := ⟨_, rfl⟩
  rw [← hn] at LI hz
  rw [← hn]
  have hi : (n : Int) + 1 ≤ (s.size : Int) := by omega
  have hlim : (s.size : Int) ≤ 1000000 := by omega
  clear h hb hr hs hz hn
  go_enter Tryz.func84, Tryz.ntmps84
  go_wp2_with (go_at_call 104; refine (LI.out _).mono ?_; rintro e w1 ⟨rfl, rfl⟩)
  go_ret
  exact ⟨_, rfl, by rw [show (max (n : Int) 1).toNat = max n 1 by omega], rfl⟩
end Go.Proofs.YtjonnamemmleiaaGreatDoor
