/- The document's Parent. -/
import Derived.Test.YtmbmahpklkcioaaDoorTsm
namespace Go.Proofs.YtmbmahpklkcioaaDoor
open Go.RowKit

set_option maxRecDepth 10000 in
set_option maxHeartbeats 2000000 in
theorem refParent_any (s : ByteArray) (p a b : List UInt8) (hp : s.data.toList = p) (hab : p = a ++ 47 :: b) (hb : (47 : UInt8) ∉ b) (hs : s.size ≤ 1000000) (w : World) :
    Calls Tryd.prog 17 #[.string s] w fun e w' => e = .returned (.string ⟨(parOf p).toArray⟩) ∧ w' = w := by
  have hz : s.size = a.length + 1 + b.length := by
    have : s.size = s.data.toList.length := rfl
    rw [this, hp, hab, List.length_append, List.length_cons]; omega
  have hpl : p.length = a.length + 1 + b.length := by rw [hab, List.length_append, List.length_cons]; omega
  have HP := Lib.hid hp
  have HAB := Lib.hid hab
  have HPO := Lib.hid (parOf_eq hab hb)
  have HBN := Lib.hid hb
  have HZ := Lib.hid hz
  have HPL := Lib.hid hpl
  clear hp hab hb hpl
  go_enter Tryd.func17, Tryd.ntmps17
  go_wp2
  go_loopw [3] (fun i wr => ∃ j : Nat, i = .int .i64 j ∧ a.length ≤ j ∧ j ≤ a.length + b.length ∧ Hid (wr = w)) (fun i _ => (intOf i).toNat)
  case atStart => exact ⟨a.length + b.length, by go_num, by omega, Nat.le_refl _, rfl⟩
  case round =>
    obtain ⟨j, rfl, hj, hj2, HW⟩ := hrel
    by_cases h0 : 0 < j
    · have hji : (0 : Int) < (j : Int) := by omega
      have hjs : (j : Int) < (s.size : Int) := by omega
      have hjl : j < p.length := by rw [HPL.out]; omega
      have hg : s[j]'(by omega) = p[j] := by have := HP.out; subst this; simp [ByteArray.getElem_eq_getElem_data]
      obtain ⟨c, hc⟩ : ∃ c, c = p[j] := ⟨_, rfl⟩
      rw [← hc] at hg
      have hcj : (a ++ 47 :: b)[j]? = some c := by rw [← HAB.out, List.getElem?_eq_getElem hjl, hc]
      by_cases he : j = a.length
      · subst he
        have hc47 : c = 47 := by
          rw [List.getElem?_append_right (Nat.le_refl _)] at hcj
          simpa using hcj.symm
        subst hc47
        have HR := Lib.hid (show s.extract 0 a.length = ⟨(parOf p).toArray⟩ from by
          rw [bytes_of (ext_data s p HP.out 0 a.length), List.drop_zero, HPO.out, Nat.max_eq_left (by omega)])
        clear hc hcj
        go_wp2
        go_ret
        exact ⟨congrArg (fun x => Ending.returned (Value.string x)) HR.out, HW.out⟩
      · have hne : c ≠ 47 := by
          intro e
          rw [List.getElem?_append_right (by omega)] at hcj
          obtain ⟨d, hd⟩ : ∃ d, j - a.length = d + 1 := ⟨j - a.length - 1, by omega⟩
          rw [hd, List.getElem?_cons_succ, e] at hcj
          exact HBN.out (List.mem_of_getElem? hcj)
        have hcq : ((c.toNat : Int) == 47) = false := beq_eq_false_iff_ne.2 (fun e => hne (UInt8.toNat.inj (by show c.toNat = 47; omega)))
        have hcn : ¬ (c.toNat : Int) = 47 := fun e => hne (UInt8.toNat.inj (by show c.toNat = 47; omega))
        clear hc hcj hne
        go_wp2
        go_roundw
        case rel => exact ⟨j - 1, by go_num, by omega, by omega, HW.out⟩
        case measure => simp [intOf]; omega
    · have hji : ¬ (0 : Int) < (j : Int) := by omega
      have HR := Lib.hid (show (⟨#[47]⟩ : ByteArray) = ⟨(parOf p).toArray⟩ from by
        have ha : a = [] := List.eq_nil_of_length_eq_zero (by omega)
        rw [HPO.out, HAB.out, ha]; rfl)
      go_wp2
      go_ret
      exact ⟨congrArg (fun x => Ending.returned (Value.string x)) HR.out, HW.out⟩
end Go.Proofs.YtmbmahpklkcioaaDoor
